"""Papers and denials."""

from spanalike.alike import UnlikeSpan
from spanalike.alike_strips import Factors, UnlikeDistance
from spanalike.asking import Asked, Known
from spanalike.bridges import Bridge
from spanalike.deep import Deep, Equals
from spanalike.evens import Even, Uneven
from spanalike.families import Family
from spanalike.flat_lots import NoFlat
from spanalike.flats import Bent, Flat
from spanalike.heard_lots import Undoing
from spanalike.hushed import Hush, HushBar, Loud
from spanalike.judged import Always, LotKept, Never, NoLotKept, Open
from spanalike.papers import Denial, Paper, fixed
from spanalike.probes import Deaf, TellsAll
from spanalike.quotients import NoQuotient, Quotient
from spanalike.rebuilt import Told
from spanalike.rows import Row
from spanalike.same_pieces import SamePieces, UnlikePiece
from spanalike.span_bars import CountsBar, HasLot, NoLot
from spanalike.telling import Kin, Telling
from spanalike.thin import MostThin
from spanalike.together import BentTogether, FlatTogether, TogetherBar
from spanalike.told_strips import StripBar
from spanalike.wrong import MoreWrong, OneWrong, Right
from tests.tools import Case

PAPERS = (
    (HasLot, ("lot",), True), (Quotient, ("numbers", "by"), True), (Bridge, ("numbers", "by"), True),
    (Family, ("lots", "bridges"), True), (CountsBar, ("kind", "number"), False), (NoLot, (), False),
    (NoQuotient, ("divisor",), False), (UnlikeSpan, ("beat",), False),
    (Factors, ("common", "rest", "sign"), True), (UnlikeDistance, ("distance",), False),
    (StripBar, ("kind", "number"), False), (SamePieces, ("size",), True),
    (UnlikePiece, ("piece", "here", "there"), False), (Told, ("size", "rivals"), True), (LotKept, ("lot",), True),
    (NoLotKept, ("numbers",), False), (Always, ("many",), True), (Open, ("one", "other"), True),
    (Never, ("many",), False), (Telling, ("distances", "rivals"), True), (Kin, ("lot",), False),
    (Right, ("lot",), True), (OneWrong, ("rows",), False), (MoreWrong, (), False),
    (Asked, ("distance", "most"), True), (Known, ("lot",), True), (Flat, ("number",), True),
    (Bent, ("one", "other"), False), (NoFlat, ("reason",), False), (MostThin, ("lot", "reason"), True),
    (Even, ("turn",), True), (Uneven, ("total", "greatest"), False), (Deep, ("order",), True),
    (Equals, ("one", "other"), False), (TellsAll, ("numbers",), True), (Deaf, ("divisor", "one", "other"), False),
    (Undoing, ("numbers", "by"), True), (FlatTogether, ("number",), True), (BentTogether, ("one", "other"), False),
    (TogetherBar, ("kind", "number"), False), (Hush, ("number",), True), (Loud, ("distance",), False),
    (HushBar, ("kind", "number"), False),
)


class TestFixed(Case):
    def test_lists_become_tuples_all_the_way_in(self):
        self.just(fixed([1, (2, [3, []]), "ab"]), (1, (2, (3, ())), "ab"))
        self.just(fixed([]), ())
        self.just(fixed((1, 2)), (1, 2))

    def test_other_values_stay(self):
        row = Row([1, 0])
        for value in (None, True, 5, "12", {1: [2]}, {1}, b"1", row):
            self.assertIs(fixed(value), value)
        self.assertIs(fixed([row])[0], row)
        self.just(fixed([{"a": [1]}]), ({"a": [1]},))

    def test_deep_ones(self):
        value, wanted = [], ()
        for _ in range(29):
            value, wanted = [value], (wanted,)
        self.just(fixed(value), wanted)


class TestPaper(Case):
    def test_attributes(self):
        paper = Paper("note", [1, [2]], "x", None)
        self.just([paper.word, paper.parts], ["note", ((1, (2,)), "x", None)])
        self.just(Paper("note").parts, ())
        self.just(Denial("no", [1]).parts, ((1,),))
        self.just(Denial(word="no").word, "no")

    def test_truth(self):
        self.assertIs(bool(Paper("note")), True)
        self.assertIs(bool(Paper("note", 0)), True)
        self.assertIs(bool(Denial("no", 1)), False)
        self.assertTrue(issubclass(Denial, Paper))

    def test_what_is_passed_is_copied(self):
        numbers = [1, 2]
        paper = Paper("note", numbers)
        numbers.append(3)
        self.just(paper.parts, ((1, 2),))

    def test_equality(self):
        self.assertTrue(Paper("a", [1]) == Paper("a", (1,)))
        self.assertTrue(Denial("a", 1) == Denial("a", 1))
        self.assertFalse(Paper("a", 1) != Paper("a", 1))
        self.assertTrue(Paper("a", 1) == Paper("a", True))
        for other in (Paper("b", 1), Paper("a", 2), Paper("a"), Paper("a", 1, 1), Denial("a", 1), None, ("a", 1), "a"):
            self.assertFalse(Paper("a", 1) == other)
            self.assertTrue(Paper("a", 1) != other)
        for other in (Denial("b", 1), Denial("A", 1), Denial("a", 2), Denial("a", 0), Denial("a"), Paper("a", 1), None):
            self.assertFalse(Denial("a", 1) == other)
            self.assertTrue(Denial("a", 1) != other)

    def test_listed_methods_stand_in_the_classes(self):
        for kind in (Paper, Denial):
            self.assertIn("__eq__", vars(kind))


class TestClassesOfPapers(Case):
    def test_word_parts_and_attributes(self):
        values = [[1, [2]], "text", [3]]
        wanted = [(1, (2,)), "text", (3,)]
        for kind, names, is_true in PAPERS:
            told = values[:len(names)]
            for paper in (kind(*told), kind(**dict(zip(names, told)))):
                self.assertEqual(paper.word, kind.__name__.lower())
                self.just(paper.parts, tuple(wanted[:len(names)]))
                self.just([getattr(paper, name) for name in names], wanted[:len(names)])
                self.assertIs(bool(paper), is_true)
                self.assertIsInstance(paper, Paper)
                self.assertIs(isinstance(paper, Denial), not is_true)

    def test_any_values_are_kept(self):
        row = Row([1, 0])
        for value in (None, True, 0, -1, "", {}, row, NoLot):
            for kind, names, _ in PAPERS:
                paper = kind(*[value] * len(names))
                for name in names:
                    self.assertIs(getattr(paper, name), value)

    def test_equality(self):
        self.assertTrue(Bridge([1, 0], 1) == Bridge((1, 0), 1))
        self.assertTrue(NoLot() == NoLot())
        self.assertFalse(Bridge([1, 0], 1) == Bridge((1, 0), 2))
        self.assertFalse(Bridge([1, 0], 1) == Quotient([1, 0], 1))
        self.assertFalse(Bridge([1, 0], 1) == Paper("bridge", (1, 0), 1))
        self.assertFalse(Paper("bridge", (1, 0), 1) == Bridge([1, 0], 1))
        self.assertFalse(NoQuotient(2) == UnlikeSpan(2))
        self.assertFalse(NoLot() == Denial("nolot"))
        self.assertTrue(HasLot(Row([1, 0])) == HasLot(Row((1, 0))))
        self.assertFalse(HasLot(Row([1, 0])) == HasLot(Row((0, 1))))
