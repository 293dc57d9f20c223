"""Sayings: values, edges, refusals, when they fit and are kept, and their texts."""

import itertools
from unittest.mock import ANY

from spanalike.errors import BadNumber, BadPiece, BadRow, BadSaying, BadText, Misfit, Twice
from spanalike.rows import Row
from spanalike.sayings import FreeBeat, HeardDistance, HeardPiece, HeardSize, HeardSum, MarkedBeat, Saying
from tests.tools import NO_INTEGERS, NO_LISTS, NO_ROWS, NO_TEXTS, Case, all_lots, counts_of

LONG = 10 ** 3999 + 9
KINDS = ("=", ">=", "<=")
NO_KINDS = ("==", "<", ">", "", "= ", None, 1, True, ["="], ("=",), b"=", object(), ANY)
NO_LOTS = NO_ROWS + (Row([0, 2, 1]), Row([-1, 0]))
CLASSES = (HeardDistance, HeardSize, HeardPiece, HeardSum, MarkedBeat, FreeBeat)


def is_so(kind, heard, number):
    return {"=": heard == number, ">=": heard >= number, "<=": heard <= number}[kind]


def times_there(many, marks, beats):
    """How many sets of marks are turned forms of some beats."""
    forms = {frozenset((beat + turn) % many for beat in beats) for turn in range(many)}
    return len([form for form in forms if form <= set(marks)])


def some_sayings():
    """Sayings of each class, with what tells whether a lot keeps them, told many and marks."""
    found = []
    for kind, number in itertools.product(KINDS, range(4)):
        found.append((HeardSize(kind, number), lambda many, marks, k=kind, n=number: is_so(k, len(marks), n)))
        for distance in (1, 2, 3, 4):
            found.append((HeardDistance(distance, kind, number), lambda many, marks, d=distance, k=kind, n=number:
                          is_so(k, counts_of(many, marks)[d - 1], n)))
        for beats in ((0, 1), (0, 3), (0, 4), (0, 1, 3), (0, 2, 3), (0, 2, 4), (0, 2, 4, 6), (0, 1, 2, 3, 5)):
            found.append((HeardPiece(beats, kind, number), lambda many, marks, b=beats, k=kind, n=number:
                          is_so(k, times_there(many, marks, b), n)))
        for pairs in (((1, 1),), ((1, 2), (3, -1)), ((2, -9), (1, 9)), ((4, 1), (2, 0), (3, 3), (1, -2))):
            for value in (number - 2, 3 * number):
                found.append((HeardSum(pairs, kind, value), lambda many, marks, p=pairs, k=kind, n=value:
                              is_so(k, sum(counts_of(many, marks)[d - 1] * times for d, times in p), n)))
    for beat in range(8):
        found.append((MarkedBeat(beat), lambda many, marks, b=beat: b in marks))
        found.append((FreeBeat(beat), lambda many, marks, b=beat: b not in marks))
    return found


class TestMaking(Case):
    def test_attributes(self):
        for saying in (HeardDistance(12, ">=", LONG), HeardDistance(distance=12, kind=">=", number=LONG)):
            self.just([saying.distance, saying.kind, saying.number], [12, ">=", LONG])
        self.just([HeardSize(kind="<=", number=0).kind, HeardSize("<=", 0).number], ["<=", 0])
        saying = HeardPiece(piece=[0, 5, 23], kind="=", number=1)
        self.just([saying.piece, saying.kind, saying.number], [(0, 5, 23), "=", 1])
        saying = HeardSum(pairs=[[3, -9], (1, 9)], kind="=", number=-LONG)
        self.just([saying.pairs, saying.kind, saying.number], [((1, 9), (3, -9)), "=", -LONG])
        self.just([MarkedBeat(beat=23).beat, FreeBeat(beat=0).beat], [23, 0])

    def test_edges(self):
        for distance in range(1, 13):
            self.just(HeardDistance(distance, "=", 0).distance, distance)
        self.just(HeardPiece((0, 1), "=", 0).piece, (0, 1))
        self.just(HeardPiece((0, 1, 2, 3, 23), "=", 0).piece, (0, 1, 2, 3, 23))
        self.just(HeardSum([(12, 0)], "=", 0).pairs, ((12, 0),))
        self.just(len(HeardSum([(distance, 9) for distance in range(1, 7)], "=", 0).pairs), 6)

    def test_refused_distances_and_sizes(self):
        for value in NO_INTEGERS + (0, 13, -1, LONG):
            self.refused(BadNumber, ("distance",), HeardDistance, value, None, None)
        for kind in NO_KINDS:
            self.refused(BadSaying, ("kind",), HeardDistance, 1, kind, None)
            self.refused(BadSaying, ("kind",), HeardSize, kind, None)
        for value in NO_INTEGERS + (-1, -LONG):
            self.refused(BadNumber, ("number",), HeardDistance, 1, "=", value)
            self.refused(BadNumber, ("number",), HeardSize, "=", value)

    def test_refused_pieces(self):
        for value in NO_LISTS + ([], [0], [1, 2], [0, 0], [0, 2, 1], [0, 24], [0, -1], [0, 1, 2, 3, 4, 5], [0, 1, 1],
                                 [0, None], [False, 1], [0, 1.0], ["0", "1"], [0, 3, 3]):
            self.refused(BadPiece, ("piece",), HeardPiece, value, None, None)
        for kind in NO_KINDS:
            self.refused(BadSaying, ("kind",), HeardPiece, [0, 1], kind, None)
        for value in NO_INTEGERS + (-1,):
            self.refused(BadNumber, ("number",), HeardPiece, [0, 1], "=", value)

    def test_refused_sums(self):
        for value in NO_LISTS + (
            [], [1, 2], [(1,)], [(1, 2, 3)], [(0, 1)], [(13, 1)], [(1, 10)], [(1, -10)], [(True, 1)], [(1, True)],
            [(1, None)], [("1", 1)], [(1, 1), None], [(1, 1), (1, 99)], [(distance, 1) for distance in range(1, 8)],
            ["11"], [{1: 1}], [(1, 1.0)],
        ):
            self.refused(BadSaying, ("pairs",), HeardSum, value, None, None)
        self.refused(Twice, (2,), HeardSum, [(3, 1), (2, 1), (1, 5), (2, 2), (3, 1)], None, None)
        for kind in NO_KINDS:
            self.refused(BadSaying, ("kind",), HeardSum, [(1, 1)], kind, None)
        for value in NO_INTEGERS:
            self.refused(BadNumber, ("number",), HeardSum, [(1, 1)], "=", value)

    def test_refused_beats(self):
        for kind in (MarkedBeat, FreeBeat):
            for value in NO_INTEGERS + (-1, 24, LONG):
                self.refused(BadNumber, ("beat",), kind, value)

    def test_what_is_passed_is_copied(self):
        beats, pairs = [0, 1], [[2, 1], [1, 1]]
        piece, some = HeardPiece(beats, "=", 1), HeardSum(pairs, "=", 1)
        beats.append(5)
        pairs[0][1] = 7
        pairs.pop()
        self.just([piece.piece, some.pairs], [(0, 1), ((1, 1), (2, 1))])

    def test_classes(self):
        for kind in CLASSES:
            self.assertEqual(kind.__bases__, (Saying,))
            for name in ("fits", "keeps", "__eq__", "__str__"):
                self.assertIn(name, vars(kind))
        self.assertIn("read", vars(Saying))

    def test_a_bare_one_fits_no_ring(self):
        bare = Saying()
        self.just([bare.fits(2), bare.fits(many=24), str(bare), bare == Saying()], [False, False, "saying", True])
        self.just([bare == HeardSize("=", 1), bare == 5], [False, False])
        self.refused(BadNumber, ("many",), bare.fits, 25)
        self.refused(BadRow, ("lot",), bare.keeps, None)
        self.refused(Misfit, ("beats",), bare.keeps, Row([1, 0]))

    def test_equality(self):
        told = [
            lambda: HeardDistance(1, "=", 2), lambda: HeardDistance(2, "=", 2), lambda: HeardDistance(1, ">=", 2),
            lambda: HeardDistance(1, "=", 3), lambda: HeardSize("=", 2), lambda: HeardSize("<=", 2),
            lambda: HeardSize("=", 1), lambda: HeardPiece([0, 1], "=", 2), lambda: HeardPiece([0, 2], "=", 2),
            lambda: HeardPiece([0, 1, 2], "=", 2), lambda: HeardPiece([0, 1], "<=", 2),
            lambda: HeardPiece([0, 1], "=", 0), lambda: HeardSum([(1, 1)], "=", 2), lambda: HeardSum([(1, 2)], "=", 2),
            lambda: HeardSum([(1, 1), (2, 1)], "=", 2), lambda: HeardSum([(1, 1)], ">=", 2),
            lambda: HeardSum([(1, 1)], "=", 1), lambda: MarkedBeat(1), lambda: MarkedBeat(2), lambda: FreeBeat(1),
            lambda: FreeBeat(2), lambda: FreeBeat(0),
            lambda: None, lambda: 1, lambda: "marked 1",
        ]
        for (here, one), (there, other) in itertools.product(enumerate(told), repeat=2):
            self.assertIs(one() == other(), here == there)
            self.assertIs(one() != other(), here != there)
        self.assertTrue(HeardSum([(1, 1), (2, 3)], "=", 2) == HeardSum([[2, 3], [1, 1]], "=", 2))


class TestKept(Case):
    def test_fits(self):
        for many in range(2, 25):
            for distance in range(1, 13):
                wanted = distance <= many // 2
                self.assertIs(HeardDistance(distance, "=", 0).fits(many=many), wanted)
                self.assertIs(HeardSum([(distance, 0), (1, 1)][:2 - (distance == 1)], "=", 0).fits(many), wanted)
            for beat in range(24):
                self.assertIs(MarkedBeat(beat).fits(many), beat < many)
                self.assertIs(FreeBeat(beat).fits(many), beat < many)
                if beat:
                    self.assertIs(HeardPiece([0, beat], "=", 0).fits(many), beat < many)
            self.assertIs(HeardSize("=", 99).fits(many), True)
        for saying, _ in some_sayings()[::9]:
            for value in NO_INTEGERS + (1, 25):
                self.refused(BadNumber, ("many",), saying.fits, value)

    def test_keeps(self):
        lots = all_lots(8)[::5] + all_lots(6)[::3] + all_lots(9)[::29] + all_lots(2) + all_lots(3)
        for saying, wanted in some_sayings():
            for lot in lots:
                if saying.fits(lot.many):
                    self.assertIs(saying.keeps(lot=lot), wanted(lot.many, lot.marks))
                else:
                    self.refused(Misfit, ("beats",), saying.keeps, lot)

    def test_on_24_beats(self):
        lot = Row.of(24, [0, 12, 23])
        self.assertIs(HeardDistance(12, "=", 1).keeps(lot), True)
        self.assertIs(HeardPiece([0, 23], "=", 1).keeps(lot), True)
        self.assertIs(HeardSum([(11, 2), (12, 3), (1, -1)], "=", 4).keeps(lot), True)
        self.assertIs(MarkedBeat(23).keeps(lot), True)
        self.assertIs(FreeBeat(23).keeps(lot), False)
        self.assertIs(HeardSize("<=", LONG).keeps(lot), True)

    def test_refused(self):
        for saying, _ in some_sayings()[::11] + [(MarkedBeat(20), None)]:
            for value in NO_LOTS:
                self.refused(BadRow, ("lot",), saying.keeps, value)


class TestTexts(Case):
    def test_texts(self):
        for saying, text in (
            (HeardDistance(3, "=", 2), "distance 3 = 2"), (HeardSize(">=", 4), "size >= 4"),
            (HeardPiece([0, 1, 4], "<=", 1), "piece 0 1 4 <= 1"),
            (HeardSum([(3, -1), (1, 2)], ">=", 0), "sum 1 2 3 -1 >= 0"), (MarkedBeat(3), "marked 3"),
            (FreeBeat(0), "free 0"), (FreeBeat(23), "free 23"), (MarkedBeat(0), "marked 0"),
            (HeardSum([(12, -9)], "=", -5), "sum 12 -9 = -5"),
            (HeardPiece([0, 1, 2, 3, 23], "=", 0), "piece 0 1 2 3 23 = 0"), (MarkedBeat(23), "marked 23"),
            (HeardSum([(d, d) for d in range(6, 0, -1)], "=", 0), "sum 1 1 2 2 3 3 4 4 5 5 6 6 = 0"),
            (HeardDistance(12, "=", 10 ** 60 - 1), "distance 12 = " + "9" * 60),
            (HeardSum([(1, 0)], "=", -10 ** 59), "sum 1 0 = -1" + "0" * 59),
        ):
            self.assertEqual(str(saying), text)
            found = Saying.read(text=text)
            self.assertIs(type(found), type(saying))
            self.assertTrue(found == saying)
        for saying, _ in some_sayings():
            self.assertTrue(Saying.read(str(saying)) == saying)
        self.assertEqual(str(HeardSize("=", LONG)), "size = 1" + "0" * 3998 + "9")

    def test_what_is_no_text(self):
        for value in NO_TEXTS:
            self.refused(BadText, (0, 0), Saying.read, value)

    def test_missing_items(self):
        for text in ("distance 3 = 2", "size >= 4", "piece 0 1 4 <= 1", "piece 0 1 2 3 4 = 0", "marked 3", "free 0",
                     "sum 1 2 3 -1 >= 0", "sum 1 1 2 2 3 3 4 4 5 5 6 6 = 0"):
            items = text.split(" ")
            for count in range(1, len(items)):
                self.refused(BadText, (0, count), Saying.read, " ".join(items[:count]))
            for more in ("", "x", "0", "=", "/"):
                self.refused(BadText, (0, len(items)), Saying.read, " ".join(items + [more]))

    def test_bent_at_an_item(self):
        for text, item in (
            ("", 0), (" size = 1", 0), ("Size = 1", 0), ("sizes = 1", 0), ("3", 0), ("=", 0), ("saying", 0),
            ("distance 0 = 2", 1), ("distance 13 = 2", 1), ("distance 03 = 2", 1), ("distance -1 = 2", 1),
            ("distance x = 2", 1), ("distance 3 == 2", 2), ("distance 3 < 2", 2), ("distance 3 2", 2),
            ("distance  3 = 2", 1), ("distance 3 = -1", 3), ("distance 3 = -0", 3), ("distance 3 = x", 3),
            ("distance 3 = +2", 3), ("distance 3 = " + "1" * 61, 3), ("distance 3 = ", 3),
            ("size 3", 1), ("size = x", 2), ("size = -1", 2), ("size = 1.0", 2),
            ("piece 1 2 = 0", 1), ("piece -1 2 = 0", 1), ("piece = 1", 1), ("piece x", 1), ("piece 00 1 = 1", 1),
            ("piece 0 = 1", 2),
            ("piece 0 0 = 1", 2), ("piece 0 24 = 1", 2), ("piece 0 -1 = 1", 2), ("piece 0 2 2 = 1", 3),
            ("piece 0 2 1 = 1", 3), ("piece 0 23 24 = 1", 3), ("piece 0 1 2 3 4 5 = 1", 6), ("piece 0 1 x = 1", 3),
            ("piece 0 1 > 1", 3), ("piece 0 1 = -1", 4), ("piece 0 23 x", 3), ("piece 0 1 = =", 4),
            ("sum = 0", 1), ("sum 0 1 = 0", 1), ("sum 13 1 = 0", 1), ("sum 1 10 = 0", 2), ("sum 1 -10 = 0", 2),
            ("sum 1 = 0", 2), ("sum 1 1 1 1 = 0", 3), ("sum 2 1 1 1 = 0", 3), ("sum 1 1 2 = 0", 4),
            ("sum 12 1 13 1 = 0", 3), ("sum 12 1 12 1 = 0", 3), ("sum 1 1 2 2 3 3 4 4 5 5 6 6 7 7 = 0", 13),
            ("sum 1 1 = x", 4), ("sum 1 1 = --1", 4), ("sum 1 -0 = 0", 2), ("sum 1 1 x", 3),
            ("marked 24", 1), ("marked -1", 1), ("marked x", 1), ("free 24", 1), ("free -1", 1), ("free 01", 1),
            ("free ", 1),
            ("marked = 1", 1),
        ):
            self.refused(BadText, (0, item), Saying.read, text)


class TestFacts(Case):
    def test_a_piece_of_two_is_a_distance(self):
        for lot in all_lots(8)[::3] + all_lots(7)[::3]:
            for distance, number in itertools.product(range(1, lot.many // 2 + 1), range(4)):
                for kind in KINDS:
                    one = HeardDistance(distance, kind, number).keeps(lot)
                    self.assertIs(HeardPiece([0, distance], kind, number).keeps(lot), one)
                    self.assertIs(HeardSum([(distance, 1)], kind, number).keeps(lot), one)
