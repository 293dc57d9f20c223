"""Shelves, and what deed lines and ask lines do on them: values, edges, refusals."""

from unittest.mock import ANY

from spanalike.alike import alike
from spanalike.alike_strips import alike_strips
from spanalike.asking import idle_sayings, next_distance, quarrels
from spanalike.books import Book
from spanalike.deep import deep_word
from spanalike.desk_asks import answer_of
from spanalike.desk_deeds import changed
from spanalike.errors import (BadDesk, BadNumber, BadRow, BadStrip, Impossible, Misfit, NoBeat, NoName, NoSaying,
                              TooMany, Twice)
from spanalike.evens import even_word
from spanalike.families import alike_lots
from spanalike.flats import flat_word
from spanalike.folded import folded
from spanalike.hushed import hushed
from spanalike.judged import judged, lot_kept, many_kept
from spanalike.pieces import pieces
from spanalike.probes import heard, tells_all
from spanalike.rebuilt import telling_size
from spanalike.rows import Row
from spanalike.sayings import HeardDistance, HeardSize, MarkedBeat
from spanalike.shares import silent_divisors
from spanalike.shelves import Shelf
from spanalike.spans import distances, spans
from spanalike.strips import Strip, strip_distances, strip_spans
from spanalike.together import flat_together
from tests.tools import LONG, NO_LISTS, Case

A, B, C = Row.of(8, [0, 1, 3, 4]), Row.of(8, [0, 1, 2, 5]), Row([2, -1, 0, 0, 0, 0, 0, 0])
F = Row.of(7, [0, 1, 3])
NONE, RING = Row([0] * 8), Row([1] * 8)
S, T, U, V = Strip([1, 1, 1, -1]), Strip([1, 1, -1, 1]), Strip([1, 0, 1, 1]), Strip([2])
K = Book(8, [HeardSize("=", 3), HeardDistance(1, "=", 2)])
L = Book(8)
Q = Book(8, [HeardSize("=", 3), HeardDistance(4, ">=", 2), HeardDistance(1, ">=", 3)])
THINGS = (("a", A), ("b", B), ("c", C), ("f", F), ("none", NONE), ("ring", RING), ("s", S), ("t", T), ("u", U),
          ("v", V), ("k", K), ("l", L), ("q", Q))
SHELF = Shelf(THINGS)
ROWS, STRIPS, BOOKS = ("a", "b", "c", "f", "none", "ring"), ("s", "t", "u", "v"), ("k", "l", "q")
BY_NAME = dict(THINGS)
NO_SHELVES = (None, True, 5, "a", (), [("a", A)], {}, A, Shelf, object())


def in_line(values):
    return " ".join(str(value) for value in values) if len(values) else "-"


class TestShelf(Case):
    def test_attributes(self):
        for things in (THINGS, list(THINGS), [list(pair) for pair in THINGS]):
            shelf = Shelf(things=things)
            self.just(shelf.names, tuple(name for name, _ in THINGS))
            self.assertEqual(shelf.things, THINGS)
            self.assertTrue(all(type(pair) is tuple for pair in shelf.things))
            self.assertIs(type(shelf.things), tuple)
        self.just([Shelf().things, Shelf().names, Shelf([]).things], [(), (), ()])

    def test_what_is_passed_is_copied(self):
        pair = ["a", A]
        things = [pair]
        shelf = Shelf(things)
        things.append(["b", B])
        pair[0] = "c"
        self.just(shelf.names, ("a",))

    def test_things(self):
        for name, thing in THINGS:
            for kind, ask in ((Row, SHELF.row), (Strip, SHELF.strip), (Book, SHELF.book)):
                if isinstance(thing, kind):
                    self.assertIs(ask(name=name) if kind is not Strip else ask(name), thing)
                else:
                    self.refused(Misfit, ("kinds",), ask, name)
        for value in (None, True, 5, "", "x", "A", "a ", ["a"], ("a",), A, {}, object(), ANY, LONG):
            for ask in (SHELF.row, SHELF.strip, SHELF.book, Shelf().row):
                self.refused(NoName, (value,), ask, value)

    def test_equality(self):
        self.assertTrue(SHELF == Shelf(list(THINGS)))
        self.assertFalse(SHELF != Shelf(THINGS))
        for other in (Shelf(), Shelf(THINGS[1:]), Shelf(THINGS[1:] + THINGS[:1]), Shelf((("a", B),) + THINGS[1:]),
                      Shelf((("z", A),) + THINGS[1:]), None, THINGS, 5):
            self.assertFalse(SHELF == other)
            self.assertTrue(SHELF != other)
        self.assertFalse(Shelf([("a", Row([1, 1]))]) == Shelf([("a", Strip([1, 1]))]))

    def test_refused(self):
        for value in NO_LISTS + ([A], ["a"], [("a",)], [("a", A, A)], [["a", A], None], [("a", None)], [("a", 5)],
                                 [("A", A)], [("", A)], [("a" * 13, A)], [(5, A)], [(True, A)], [(None, A)],
                                 [("a", "1 0")], [("a", (1, 0))], [("a", HeardSize("=", 1))], [("a", SHELF)],
                                 [(A, "a")], "a", [("a", A), ("a", A), ("b", 5)], ["ab"], [{"a": A}]):
            self.refused(BadDesk, ("things",), Shelf, value)
        self.refused(Twice, ("b",), Shelf, [("a", A), ("b", B), ("c", S), ("b", B), ("a", A)])

    def test_listed_methods_stand_in_the_class(self):
        for name in ("row", "strip", "book", "__eq__"):
            self.assertIn(name, vars(Shelf))


class TestDeeds(Case):
    def deed(self, line, name, thing, answer):
        """The line makes this thing of the name, None for none, and nothing else; and this answer."""
        before = Shelf(THINGS)
        found = changed(shelf=before, line=line)
        self.assertIs(type(found), tuple)
        later, told = found
        self.just(told, answer)
        self.assertIs(type(later), Shelf)
        self.assertTrue(before == SHELF)
        if thing is None:
            wanted = [pair for pair in THINGS if pair[0] != name]
        elif name in BY_NAME:
            wanted = [(known, thing if known == name else kept) for known, kept in THINGS]
        else:
            wanted = list(THINGS) + [(name, thing)]
        self.assertEqual(later.things, tuple(wanted))
        self.just(later.names, tuple(known for known, _ in wanted))

    def test_row(self):
        self.deed("row x 1 0 -2", "x", Row([1, 0, -2]), "-1")
        self.deed("row x 0 0", "x", Row([0, 0]), "0")
        self.deed("row x " + " ".join(["9" * 60] * 24), "x", Row([int("9" * 60)] * 24), str(24 * int("9" * 60)))

    def test_lot(self):
        self.deed("lot x 8 0 3", "x", Row.of(8, [0, 3]), "2")
        self.deed("lot x 2 1", "x", Row([0, 1]), "1")
        self.deed("lot x 24 " + " ".join(map(str, range(24))), "x", Row([1] * 24), "24")
        for many in (0, 1, 25):
            self.refused(BadNumber, ("many",), changed, SHELF, f"lot x {many} 0 99")
        self.refused(NoBeat, (8,), changed, SHELF, "lot x 8 0 8 9")

    def test_strip(self):
        self.deed("strip x 1", "x", Strip([1]), "0")
        self.deed("strip x 2 0 -1", "x", Strip([2, 0, -1]), "2")
        self.deed("strip x " + " ".join(["1"] * 41), "x", Strip([1] * 41), "40")

    def test_book(self):
        self.deed("book x 12", "x", Book(12), "14")
        self.assertEqual(changed(Shelf(), "book x 2")[1], "1")
        for many in (0, 1, 13, 10 ** 59):
            self.refused(BadNumber, ("many",), changed, SHELF, f"book x {many}")

    def test_turn(self):
        for by in (0, 1, -1, 7, 8, 999, -999):
            for name in ROWS:
                row = BY_NAME[name].turned(by)
                self.deed(f"turn {name} {by}", name, row, in_line(row.marks))

    def test_mirror(self):
        for name in ROWS:
            row = BY_NAME[name].mirrored()
            self.deed("mirror " + name, name, row, in_line(row.marks))
        for name in STRIPS:
            strip = BY_NAME[name].backward()
            self.deed("mirror " + name, name, strip, in_line(strip.marks))

    def test_stretch(self):
        for by in (1, 3, 5, 7):
            for name in ROWS:
                if by < BY_NAME[name].many and not (name == "f" and by == 7):
                    row = BY_NAME[name].stretched(by)
                    self.deed(f"stretch {name} {by}", name, row, in_line(row.marks))
        for by in (0, 2, 4, 8, 9, -1):
            self.refused(BadNumber, ("by",), changed, SHELF, f"stretch a {by}")

    def test_leave(self):
        for name in ROWS:
            row = BY_NAME[name].left_out()
            self.deed("leave " + name, name, row, in_line(row.marks))
        self.deed("leave ring", "ring", NONE, "-")

    def test_product(self):
        for one in ("a", "c", "none"):
            for other in ("a", "b", "ring"):
                row = BY_NAME[one].product(BY_NAME[other])
                self.deed(f"product x {one} {other}", "x", row, str(row.total))
        for one in STRIPS:
            for other in STRIPS:
                strip = BY_NAME[one].product(BY_NAME[other])
                self.deed(f"product x {one} {other}", "x", strip, str(strip.total))
        self.refused(Misfit, ("beats",), changed, SHELF, "product x a f")
        shelf = Shelf([("s", Strip([1] * 21)), ("t", Strip([1] * 22))])
        self.assertEqual(changed(shelf, "product x s s")[0].strip("x").length, 40)
        self.refused(TooMany, ("length", 40), changed, shelf, "product x s t")

    def test_fold(self):
        for name in STRIPS:
            for many in (2, 3, 24):
                row = folded(BY_NAME[name].numbers, many)
                self.deed(f"fold x {name} {many}", "x", row, str(row.total))
        for many in (0, 1, 25):
            self.refused(BadNumber, ("many",), changed, SHELF, f"fold x s {many}")

    def test_tell(self):
        saying = HeardSize("<=", 9)
        self.deed("tell l size <= 9", "l", L.with_saying(saying), "0")
        self.deed("tell k size <= 9", "k", K.with_saying(saying), "2")
        for line in ("tell k distance 5 = 1", "tell k marked 8", "tell k free 23", "tell k piece 0 8 = 0",
                     "tell k sum 1 1 5 1 = 0"):
            self.refused(Misfit, ("beats",), changed, SHELF, line)
        nine = Shelf([("k", Book(3, [saying] * 9))])
        later, answer = changed(nine, "tell k size = 1")
        self.just(answer, "9")
        self.refused(TooMany, ("sayings", 10), changed, later, "tell k size = 1")
        self.refused(Misfit, ("beats",), changed, later, "tell k marked 3")

    def test_strike(self):
        self.deed("strike k 0", "k", K.without([0]), "1")
        self.deed("strike q 2 0", "q", Q.without([0, 2]), "1")
        self.deed("strike q 0 1 2", "q", Book(8), "0")
        self.refused(NoSaying, (2,), changed, SHELF, "strike k 0 0 2 3")
        self.refused(NoSaying, (0,), changed, SHELF, "strike l 0")
        self.refused(Twice, (1,), changed, SHELF, "strike k 1 1")

    def test_drop(self):
        for name in BY_NAME:
            self.deed("drop " + name, name, None, "12")
        self.assertEqual(changed(Shelf([("a", A)]), "drop a"), (Shelf(), "0"))

    def test_long_numbers(self):
        shelf = Shelf([("x", Row([LONG, 1])), ("y", Strip([LONG, 1]))])
        self.just(changed(shelf, "turn x 1")[0].row("x").numbers, (1, LONG))
        self.just(changed(shelf, "fold z y 2")[1], str(LONG + 1))
        self.just(answer_of(shelf, "show x"), f"row {LONG} 1")

    def test_refused_shelves(self):
        for value in NO_SHELVES:
            self.refused(BadDesk, ("shelf",), changed, value, None)
            self.refused(BadDesk, ("shelf",), answer_of, value, None)
            self.refused(BadDesk, ("shelf",), changed, value, "names")
            self.refused(BadDesk, ("shelf",), answer_of, value, "drop a")


class TestNamesAndKinds(Case):
    def lines(self):
        """For each line with names the function, what stands ahead and behind, and the kinds of its things."""
        return (
            (changed, "turn", "1", ROWS), (changed, "mirror", "", ROWS + STRIPS), (changed, "stretch", "1", ROWS),
            (changed, "leave", "", ROWS), (changed, "fold new", "5", STRIPS), (changed, "tell", "size = 1", BOOKS),
            (changed, "strike", "0", BOOKS), (answer_of, "spans", "", ROWS + STRIPS),
            (answer_of, "counts", "", ROWS + STRIPS), (answer_of, "kin", "", ROWS), (answer_of, "silent", "", ROWS),
            (answer_of, "pieces", "1", ROWS), (answer_of, "told", "", ROWS), (answer_of, "flat", "", ROWS),
            (answer_of, "even", "", ROWS), (answer_of, "deep", "", ROWS), (answer_of, "tells", "", ROWS),
            (answer_of, "together", "", ROWS), (answer_of, "kept", "", BOOKS), (answer_of, "is", "size = 1", BOOKS),
            (answer_of, "next", "", BOOKS), (answer_of, "idle", "", BOOKS), (answer_of, "quarrels", "", BOOKS),
            (changed, "drop", "", tuple(BY_NAME)), (answer_of, "show", "", tuple(BY_NAME)),
        )

    def test_one_name(self):
        for function, ahead, behind, names in self.lines():
            for name in tuple(BY_NAME) + ("x", "aa", "names"):
                line = " ".join(item for item in (ahead, name, behind) if item)
                with self.subTest(line=line):
                    if name not in BY_NAME:
                        self.refused(NoName, (name,), function, SHELF, line)
                    elif name not in names:
                        self.refused(Misfit, ("kinds",), function, SHELF, line)

    def test_two_names(self):
        both = (ROWS, STRIPS)
        for function, ahead, groups in (
            (changed, "product new", both), (answer_of, "alike", both), (answer_of, "hears", (ROWS,)),
            (answer_of, "tells", (ROWS,)), (answer_of, "together", (ROWS,)), (answer_of, "hush", (STRIPS,)),
        ):
            for one in BY_NAME:
                self.refused(NoName, ("x",), function, SHELF, f"{ahead} {one} x")
                self.refused(NoName, ("x",), function, SHELF, f"{ahead} x {one}")
                for other in BY_NAME:
                    if not any(one in names and other in names for names in groups):
                        with self.subTest(ahead=ahead, one=one, other=other):
                            self.refused(Misfit, ("kinds",), function, SHELF, f"{ahead} {one} {other}")
            self.refused(NoName, ("y",), function, SHELF, f"{ahead} y x")

    def test_several_names(self):
        self.refused(NoName, ("x",), answer_of, SHELF, "tells a s x y")
        self.refused(NoName, ("y",), answer_of, SHELF, "together k s y x a")
        self.refused(Misfit, ("kinds",), answer_of, SHELF, "together a f none s")
        self.refused(Misfit, ("kinds",), answer_of, SHELF, "tells a f c c c c c c c c k")

    def test_new_names(self):
        for name in BY_NAME:
            self.refused(Twice, (name,), changed, SHELF, f"row {name} 1 0")
            self.refused(Twice, (name,), changed, SHELF, f"lot {name} 99 99")
            self.refused(Twice, (name,), changed, SHELF, f"strip {name} 1")
            self.refused(Twice, (name,), changed, SHELF, f"book {name} 99")
            self.refused(Twice, (name,), changed, SHELF, f"product {name} a f")
            self.refused(Twice, (name,), changed, SHELF, f"fold {name} s 99")
            self.refused(Misfit, ("kinds",), changed, SHELF, f"product {name} a s")
            self.refused(Misfit, ("kinds",), changed, SHELF, f"fold {name} a 5")
            self.refused(NoName, ("x",), changed, SHELF, f"product {name} s x")
            self.refused(NoName, ("x",), changed, SHELF, f"fold {name} x 5")
        self.refused(NoName, ("new",), changed, SHELF, "product new new a")


class TestAsks(Case):
    def ask(self, line, answer):
        self.just(answer_of(shelf=SHELF, line=line), answer)

    def test_names_and_show(self):
        self.ask("names", "a b c f none ring s t u v k l q")
        self.just(answer_of(Shelf(), "names"), "-")
        for name in BY_NAME:
            kind = "row" if name in ROWS else "strip" if name in STRIPS else "book"
            self.ask("show " + name, kind + " " + str(BY_NAME[name]))
        self.ask("show l", "book 8 : -")
        self.ask("show k", "book 8 : size = 3 / distance 1 = 2")
        self.ask("show c", "row 2 -1 0 0 0 0 0 0")

    def test_spans_and_counts(self):
        for name in ROWS:
            self.ask("spans " + name, in_line(spans(BY_NAME[name])))
            if BY_NAME[name].is_lot:
                self.ask("counts " + name, in_line(distances(BY_NAME[name])))
        for name in STRIPS:
            self.ask("spans " + name, in_line(strip_spans(BY_NAME[name])))
        self.ask("counts u", in_line(strip_distances(U)))
        self.just(answer_of(Shelf([("x", Strip([1]))]), "counts x"), "-")
        self.refused(BadRow, ("lot",), answer_of, SHELF, "counts c")
        self.refused(BadStrip, ("lot",), answer_of, SHELF, "counts s")
        self.refused(BadStrip, ("lot",), answer_of, SHELF, "counts v")

    def test_alike(self):
        for one in ("a", "b", "c", "none", "ring"):
            for other in ("a", "b", "c", "none", "ring"):
                self.ask(f"alike {one} {other}", alike(BY_NAME[one], BY_NAME[other]).word)
        for one in STRIPS:
            for other in STRIPS:
                self.ask(f"alike {one} {other}", alike_strips(BY_NAME[one], BY_NAME[other]).word)
        self.ask("alike a b", "bridge")
        self.ask("alike a c", "unlikespan")
        self.ask("alike u u", "factors")
        self.ask("alike s t", "unlikedistance")
        self.refused(Misfit, ("beats",), answer_of, SHELF, "alike a f")

    def test_rows(self):
        for name in ROWS:
            self.ask("silent " + name, in_line(silent_divisors(BY_NAME[name])))
            if BY_NAME[name].is_lot:
                self.ask("kin " + name, str(len(alike_lots(BY_NAME[name]).lots)))
                self.ask("flat " + name, flat_word(BY_NAME[name]).word)
                self.ask("deep " + name, deep_word(BY_NAME[name]).word)
            if BY_NAME[name].is_lot and name != "none":
                self.ask("told " + name, str(telling_size(BY_NAME[name]).size))
                self.ask("even " + name, even_word(BY_NAME[name]).word)
        self.ask("silent f", "-")
        self.ask("silent none", "1 2 4 8")
        self.ask("flat f", "flat")
        for word in ("kin", "flat", "deep", "told", "even"):
            self.refused(BadRow, ("lot",), answer_of, SHELF, word + " c")
        for word in ("told", "even"):
            self.refused(BadRow, ("lot",), answer_of, SHELF, word + " none")
        wide = Shelf([("x", Row.of(17, [0]))])
        self.refused(TooMany, ("beats", 16), answer_of, wide, "kin x")
        self.refused(TooMany, ("beats", 12), answer_of, wide, "told x")
        self.refused(TooMany, ("beats", 16), answer_of, wide, "pieces x 1")

    def test_pieces(self):
        for size in (1, 2, 3, 4):
            told = ["+".join(map(str, piece)) + f"={times}" for piece, times in pieces(A, size)]
            self.ask(f"pieces a {size}", " ".join(told))
        self.ask("pieces a 1", "0=4")
        self.refused(BadNumber, ("size",), answer_of, SHELF, "pieces a 0")
        self.refused(BadNumber, ("size",), answer_of, SHELF, "pieces a 6")
        self.refused(TooMany, ("size", 4), answer_of, SHELF, "pieces a 5")
        self.refused(BadRow, ("lot",), answer_of, SHELF, "pieces c 9")

    def test_probes_and_together(self):
        for one in ("a", "b", "c", "none"):
            for other in ("a", "b", "none", "ring"):
                self.ask(f"hears {one} {other}", in_line(heard(BY_NAME[one], BY_NAME[other])))
                self.ask(f"tells {one} {other}", tells_all([BY_NAME[one], BY_NAME[other]]).word)
                if one != "c":
                    self.ask(f"together {one} {other}", flat_together([BY_NAME[one], BY_NAME[other]]).word)
        self.ask("tells f", "tellsall")
        self.ask("tells ring", "deaf")
        self.ask("together f", "flattogether")
        self.ask("together a b", "benttogether")
        self.refused(BadRow, ("lot",), answer_of, SHELF, "hears f c")
        self.refused(Misfit, ("beats",), answer_of, SHELF, "hears f a")
        self.refused(Misfit, ("beats",), answer_of, SHELF, "tells a b f")
        self.refused(BadRow, ("probes",), answer_of, SHELF, "tells a b c a b c a b f")
        self.refused(BadRow, ("lots",), answer_of, SHELF, "together a f c")
        self.refused(BadRow, ("lots",), answer_of, SHELF, "together a b a b a b f")
        self.refused(Misfit, ("beats",), answer_of, SHELF, "together a f")
        self.ask("tells " + " ".join(["none"] * 8), "deaf")
        self.ask("together " + " ".join(["ring"] * 6), "flattogether")

    def test_hush(self):
        for one in ("s", "t", "u"):
            for other in ("s", "t", "u"):
                self.ask(f"hush {one} {other}", hushed(BY_NAME[one], BY_NAME[other]).word)
        self.ask("hush s t", "hush")
        self.ask("hush s s", "loud")
        self.refused(Misfit, ("length",), answer_of, SHELF, "hush s v")

    def test_books(self):
        for name in BOOKS:
            self.ask("kept " + name, str(many_kept(BY_NAME[name])))
            told = quarrels(BY_NAME[name])
            self.ask("quarrels " + name, " / ".join(in_line(numbers) for numbers in told) if told else "-")
        self.ask("quarrels q", "0 1 / 0 2")
        self.ask("quarrels k", "-")
        self.ask("kept q", "0")
        for name in ("k", "l"):
            self.ask("idle " + name, in_line(idle_sayings(BY_NAME[name])))
            for saying in (HeardSize("=", 3), HeardDistance(2, "=", 1), HeardSize(">=", 9), MarkedBeat(0)):
                self.ask(f"is {name} {saying}", judged(BY_NAME[name], saying).word)
        self.ask("next k", "known")
        self.ask("next l", str(next_distance(L).distance))
        self.refused(Misfit, ("beats",), answer_of, SHELF, "is k marked 8")
        for line in ("is q size = 3", "next q", "idle q"):
            with self.assertRaises(Impossible) as caught:
                answer_of(SHELF, line)
            self.assertTrue(caught.exception.paper == lot_kept(Q))
        seven = Shelf([("x", Book(3, [MarkedBeat(0)] * 7))])
        self.refused(TooMany, ("sayings", 6), answer_of, seven, "quarrels x")
        idle = Shelf([("x", Book(3, [MarkedBeat(0), HeardSize("<=", 9), MarkedBeat(0)]))])
        self.just(answer_of(idle, "idle x"), "0 1 2")
