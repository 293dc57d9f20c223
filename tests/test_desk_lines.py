"""Lines of a desk: how each one is read, and the item at which each one is refused."""

from spanalike.books import Book
from spanalike.desk_asks import answer_of
from spanalike.desk_deeds import changed
from spanalike.desk_lines import ASKS, DEEDS, read_line
from spanalike.errors import BadText
from spanalike.rows import Row
from spanalike.sayings import FreeBeat, HeardDistance, HeardPiece, HeardSize, HeardSum, MarkedBeat
from spanalike.shelves import Shelf
from spanalike.strips import Strip
from tests.tools import NO_TEXTS, Case

NINES = "9" * 60
LONGER = "9" * 61

# right lines, and what they are read as behind the first item
READ = (
    ("row a 1 0", ("a", Row([1, 0]))), ("row a9z 0 0 -2", ("a9z", Row([0, 0, -2]))),
    ("row a " + " ".join(["-" + NINES] * 24), ("a", Row([-int(NINES)] * 24))),
    ("lot a 8 0 3", ("a", 8, 0, 3)), ("lot a 0 0", ("a", 0, 0)), ("lot a 8 9 10 99", ("a", 8, 9, 10, 99)),
    ("lot b " + NINES + " 7", ("b", int(NINES), 7)), ("lot a 24 23", ("a", 24, 23)),
    ("strip a 1", ("a", Strip([1]))), ("strip a 1 0 -1", ("a", Strip([1, 0, -1]))),
    ("strip a " + " ".join(["1"] * 41), ("a", Strip([1] * 41))),
    ("book a 0", ("a", 0)), ("book a 12", ("a", 12)), ("book k " + NINES, ("k", int(NINES))),
    ("turn a 0", ("a", 0)), ("turn a -5", ("a", -5)), ("turn a " + NINES, ("a", int(NINES))),
    ("mirror abcdefghijkl", ("abcdefghijkl",)), ("stretch a -1", ("a", -1)), ("leave a", ("a",)),
    ("product c a b", ("c", "a", "b")), ("product a a a", ("a", "a", "a")), ("fold a b 5", ("a", "b", 5)),
    ("tell k size = 3", ("k", HeardSize("=", 3))), ("tell k distance 12 >= 0", ("k", HeardDistance(12, ">=", 0))),
    ("tell k piece 0 1 23 <= 4", ("k", HeardPiece([0, 1, 23], "<=", 4))), ("tell k marked 23", ("k", MarkedBeat(23))),
    ("tell k sum 1 -9 12 9 = -3", ("k", HeardSum([(1, -9), (12, 9)], "=", -3))), ("tell k free 0", ("k", FreeBeat(0))),
    ("strike k 0", ("k", 0)), ("strike k 3 1 1 99", ("k", 3, 1, 1, 99)), ("drop a", ("a",)),
    ("names", ()), ("show a", ("a",)), ("spans a", ("a",)), ("counts a", ("a",)), ("alike a b", ("a", "b")),
    ("kin a", ("a",)), ("silent a", ("a",)), ("pieces a 0", ("a", 0)), ("pieces a 5", ("a", 5)), ("told a", ("a",)),
    ("flat a", ("a",)), ("even a", ("a",)), ("deep a", ("a",)), ("hears a b", ("a", "b")), ("tells a", ("a",)),
    ("tells a b a", ("a", "b", "a")), ("together a", ("a",)), ("together a b c d e f g", tuple("abcdefg")),
    ("hush a b", ("a", "b")), ("kept k", ("k",)), ("is k marked 0", ("k", MarkedBeat(0))), ("next k", ("k",)),
    ("idle k", ("k",)), ("quarrels k", ("k",)), ("show names", ("names",)), ("drop drop", ("drop",)),
)

# lines that are none, and the item at which they are refused
BENT = (
    ("", 0), (" ", 0), ("x", 0), ("Row a 1 0", 0), ("rows a 1 0", 0), (" row a 1 0", 0), ("names\n", 0), ("-", 0),
    ("row", 1), ("row ", 1), ("row A 1 0", 1), ("row 1a 1 0", 1), ("row abcdefghijklm 1 0", 1), ("row  a 1 0", 1),
    ("row a", 2), ("row a ", 2), ("row a 1", 3), ("row a x 0", 2), ("row a 1 0 ", 4), ("row a 1 01", 3),
    ("row a 1 +1", 3), ("row a 1 -0", 3), ("row a 1  0", 3), ("row a 1 " + LONGER, 3), ("row a 1 0.", 3),
    ("row a " + " ".join(["1"] * 25), 26), ("row a " + " ".join(["1"] * 24) + " x", 26), ("row a 1 0\n", 3),
    ("lot", 1), ("lot a", 2), ("lot a 8", 3), ("lot a 8 ", 3), ("lot a -8 0", 2), ("lot a x 0", 2), ("lot a 08 0", 2),
    ("lot A 8 0", 1), ("lot a " + LONGER + " 0", 2), ("lot a 8 -1", 3), ("lot a 8 x", 3), ("lot a 8 3 3", 4),
    ("lot a 8 3 2", 4), ("lot a 8 0 3 1 x", 5), ("lot a 8 0 3 ", 5), ("lot a 8 0 3 x", 5), ("lot a 8 00", 3),
    ("strip", 1), ("strip a", 2), ("strip a ", 2), ("strip a 0", 2), ("strip a 0 1", 2), ("strip a 1 0", 3),
    ("strip a 1 2 0 0", 5), ("strip a x", 2), ("strip a 1 x", 3), ("strip a " + " ".join(["1"] * 42), 43),
    ("strip a 1 " + LONGER, 3), ("strip a_ 1", 1), ("strip a 1 0 x", 4),
    ("book", 1), ("book a", 2), ("book a x", 2), ("book a -1", 2), ("book a 5 5", 3), ("book a 5 ", 3),
    ("book a " + LONGER, 2), ("book a\t5", 1),
    ("turn", 1), ("turn a", 2), ("turn a x", 2), ("turn a 1 1", 3), ("turn a --1", 2), ("turn -a 1", 1),
    ("mirror", 1), ("mirror a a", 2), ("mirror a ", 2), ("mirror ", 1), ("mirror -", 1),
    ("stretch", 1), ("stretch a", 2), ("stretch a 1 ", 3), ("stretch a one", 2), ("stretch 5 1", 1),
    ("leave", 1), ("leave a b", 2), ("leave A", 1),
    ("product", 1), ("product c", 2), ("product c a", 3), ("product c a b d", 4), ("product c A b", 2),
    ("product C a b", 1), ("product c a 1", 3), ("product c  b", 2),
    ("fold", 1), ("fold a", 2), ("fold a b", 3), ("fold a b -1", 3), ("fold a b 5 5", 4), ("fold a 5 5", 2),
    ("fold 1 b 5", 1),
    ("tell", 1), ("tell k", 2), ("tell k ", 2), ("tell k x", 2), ("tell k size", 3), ("tell k size =", 4),
    ("tell k size == 3", 3), ("tell k size = -1", 4), ("tell k size = 3 3", 5), ("tell k size = 3 ", 5),
    ("tell k distance 13 = 1", 3), ("tell k distance 0 = 1", 3), ("tell k distance", 3), ("tell k distance 1", 4),
    ("tell k piece 0", 4), ("tell k piece 1 2 = 1", 3), ("tell k piece 0 24 = 1", 4), ("tell k piece 0 1 1 = 1", 5),
    ("tell k piece 0 1 2 3 4 5 = 1", 8), ("tell k sum 2 1 2 1 = 0", 5), ("tell k sum 1 10 = 0", 4),
    ("tell k sum 1 1 2 = 0", 6), ("tell k marked 24", 3), ("tell k free -1", 3), ("tell K size = 3", 1),
    ("tell k size = 3 / size = 3", 5), ("tell k -", 2),
    ("strike", 1), ("strike k", 2), ("strike k ", 2), ("strike k x", 2), ("strike k 0 x", 3), ("strike k 0 -1", 3),
    ("strike k 0 1 ", 4), ("strike K 0", 1), ("strike k 0 " + LONGER, 3),
    ("drop", 1), ("drop a b", 2), ("drop ", 1), ("drop a-", 1),
    ("names a", 1), ("names ", 1), ("names names", 1),
    ("show", 1), ("show a b", 2), ("show A", 1), ("spans", 1), ("spans a ", 2), ("counts", 1), ("counts a 1", 2),
    ("alike", 1), ("alike a", 2), ("alike a b c", 3), ("alike a 1", 2), ("alike 1 a", 1),
    ("kin", 1), ("kin a b", 2), ("silent", 1), ("silent a b", 2), ("pieces", 1), ("pieces a", 2), ("pieces a -1", 2),
    ("pieces a x", 2), ("pieces a 1 2", 3), ("told", 1), ("told a b", 2), ("flat", 1), ("flat a b", 2), ("even", 1),
    ("even a b", 2), ("deep", 1), ("deep a b", 2), ("hears", 1), ("hears a", 2), ("hears a b c", 3), ("hears a B", 2),
    ("tells", 1), ("tells ", 1), ("tells a B", 2), ("tells a b c ", 4), ("together", 1), ("together a 1 b", 2),
    ("hush", 1), ("hush a", 2), ("hush a b c", 3), ("kept", 1), ("kept a b", 2), ("is", 1), ("is k", 2), ("is k x", 2),
    ("is k size = x", 4), ("is k size = 3 x", 5), ("is 5 size = 3", 1), ("next", 1), ("next a b", 2), ("idle", 1),
    ("idle a b", 2), ("quarrels", 1), ("quarrels a b", 2), ("quarrels a ", 2),
)


class TestWords(Case):
    def test_words(self):
        self.just(DEEDS, ("row", "lot", "strip", "book", "turn", "mirror", "stretch", "leave", "product", "fold",
                          "tell", "strike", "drop"))
        self.just(ASKS, ("names", "show", "spans", "counts", "alike", "kin", "silent", "pieces", "told", "flat", "even",
                         "deep", "hears", "tells", "together", "hush", "kept", "is", "next", "idle", "quarrels"))


class TestReadLine(Case):
    def test_right_lines(self):
        for line, told in READ:
            with self.subTest(line=line):
                self.just(read_line(line=line), (line.split(" ")[0],) + told)
        self.assertEqual({line.split(" ")[0] for line, _ in READ}, set(DEEDS + ASKS))

    def test_bent_lines(self):
        for line, item in BENT:
            with self.subTest(line=line):
                self.refused(BadText, (0, item), read_line, line)
        self.assertLessEqual(set(DEEDS + ASKS), {line.split(" ")[0] for line, _ in BENT})

    def test_each_item_of_each_line(self):
        for line, told in READ:
            items = line.split(" ")
            for index in range(len(items)):
                for wrong in ("", "A", "x y", "?", "1.5"):
                    bent = items[:index] + wrong.split(" ") + items[index + 1:]
                    if wrong == "x y" and index > 0:
                        continue
                    with self.subTest(line=line, index=index, wrong=wrong):
                        self.refused(BadText, (0, index), read_line, " ".join(bent))

    def test_cut_lines(self):
        # names alone can be fewer; rows, lots and numbers, too, as long as there are enough
        least = {"row": 4, "lot": 4, "strip": 3, "strike": 3, "tells": 2, "together": 2}
        for line, told in READ:
            items = line.split(" ")
            for count in range(1, len(items)):
                if count < least.get(items[0], len(items)) and items[0] not in ("tell", "is"):
                    with self.subTest(line=line, count=count):
                        self.refused(BadText, (0, count), read_line, " ".join(items[:count]))

    def test_an_item_too_many(self):
        for line, told in READ:
            items = line.split(" ")
            if items[0] not in ("row", "lot", "strip", "strike", "tells", "together"):
                for more in ("a", "1", ""):
                    with self.subTest(line=line, more=more):
                        self.refused(BadText, (0, len(items)), read_line, line + " " + more)

    def test_no_strings(self):
        for value in NO_TEXTS:
            self.refused(BadText, (0, 0), read_line, value)
            self.refused(BadText, (0, 0), changed, Shelf(), value)
            self.refused(BadText, (0, 0), answer_of, Shelf(), value)

    def test_deeds_and_asks_read_just_so(self):
        for line, item in BENT:
            word = line.split(" ")[0]
            self.refused(BadText, (0, 0 if word in ASKS else item), changed, Shelf(), line)
            self.refused(BadText, (0, 0 if word in DEEDS else item), answer_of, Shelf(), line)

    def test_lines_of_the_other_kind(self):
        shelf = Shelf([("a", Row([1, 0])), ("k", Book(5))])
        for word in ASKS:
            for line in (word, word + " a", word + " ?", word + " a b c"):
                self.refused(BadText, (0, 0), changed, shelf, line)
        for word in DEEDS:
            for line in (word, word + " a", word + " ?", word + " a b c"):
                self.refused(BadText, (0, 0), answer_of, shelf, line)
