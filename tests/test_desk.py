"""Desks and stories: told, tried, undone, done again, twins, replayed, parted, merged."""

import itertools
import random
from unittest.mock import ANY

from spanalike.books import Book
from spanalike.desk import Desk
from spanalike.desk_asks import answer_of
from spanalike.desk_deeds import changed
from spanalike.desk_lines import ASKS, DEEDS
from spanalike.errors import (BadDesk, BadLine, BadNumber, BadText, BeatError, Impossible, Misfit, NoName, NoSaying,
                              Nothing, TooMany, Twice)
from spanalike.rows import Row
from spanalike.shelves import Shelf
from spanalike.stories import merged, parting, replay
from spanalike.strips import Strip
from tests.tools import NO_LISTS, NO_TEXTS, Case

NO_DESKS = (None, True, 5, "names", (), [], {}, Shelf(), Desk, object())

# lines on which the tests draw: deeds, asks, refused ones, lines that are none
LINES = (
    "row a 1 0 -2", "lot b 5 0 1", "lot a 5 2", "strip s 1 1 -1", "strip t 2", "book k 5", "book k 12", "turn a 1",
    "turn b 0", "mirror a", "mirror s", "stretch b 2", "leave b", "product c a b", "product d b b", "fold e s 5",
    "tell k size = 2", "tell k marked 0", "tell k distance 2 = 9", "strike k 0", "strike k 1 0", "drop a", "drop s",
    "drop k", "names", "show a", "show k", "spans s", "counts b", "alike b b", "kept k", "next k", "is k free 0",
    "idle k", "tells b", "hush s s", "lot z 1 0", "turn", "nothing", "", "names names", "row A 1 0",
)


class Plain:
    """A desk of the tests' own: the lines done, and those that can be done again."""

    def __init__(self):
        self.lines, self.again = [], []

    def shelf(self):
        found = Shelf()
        for line in self.lines:
            found = changed(found, line)[0]
        return found

    def tell(self, line):
        if line.split(" ")[0] in ASKS:
            return answer_of(self.shelf(), line)
        answer = changed(self.shelf(), line)[1]
        self.lines, self.again = self.lines + [line], []
        return answer


def outcome(function, *args):
    """What a call returns, or its error with its fields."""
    try:
        return ("answer", function(*args))
    except BeatError as error:
        return told_error(error)


def told_error(error):
    fields = []
    for value in vars(error).values():
        fields.append(told_error(value) if isinstance(value, BeatError) else value)
    return (type(error), tuple(fields))


class TestDesk(Case):
    def state(self, desk):
        """All of a desk that can be seen: what it keeps, its story, and all that can be done again."""
        twin, again = desk.twin(), []
        while True:
            try:
                again.append(twin.redo())
            except Nothing:
                break
        return desk.shelf.things, desk.story, tuple(again)

    def bad_line(self, index, error, fields, function, *args):
        with self.assertRaises(BeatError) as caught:
            function(*args)
        raised = caught.exception
        self.assertIs(type(raised), BadLine)
        self.just(raised.line, index)
        self.assertIs(type(raised.error), error)
        self.assertEqual(tuple(vars(raised.error).values()), tuple(fields))

    def test_a_new_desk(self):
        desk = Desk()
        self.just([desk.story, len(desk), desk.shelf.things], [(), 0, ()])
        self.assertIs(type(desk.shelf), Shelf)
        self.refused_nothing(desk.undo)
        self.refused_nothing(desk.redo)
        self.just(desk("names"), "-")
        self.just(desk.told(), ())
        self.just(desk.tried(), ())

    def refused_nothing(self, function):
        with self.assertRaises(BeatError) as caught:
            function()
        self.assertIs(type(caught.exception), Nothing)

    def test_one_line(self):
        desk = Desk()
        self.just([desk("lot a 8 0 3"), desk("turn a 1"), desk("show a"), desk("names")],
                  ["2", "1 4", "row 0 1 0 0 1 0 0 0", "a"])
        self.just(desk.story, ("lot a 8 0 3", "turn a 1"))
        before = self.state(desk)
        for line, error, fields in (
            ("turn b 1", NoName, ("b",)), ("lot a 8 0", Twice, ("a",)), ("stretch a 2", BadNumber, ("by",)),
            ("hush a a", Misfit, ("kinds",)), ("names a", BadText, (0, 1)), ("", BadText, (0, 0)),
        ):
            self.refused(error, fields, desk, line)
            self.assertEqual(self.state(desk), before)
        for value in NO_TEXTS:
            self.refused(BadText, (0, 0), desk, value)

    def test_told(self):
        desk = Desk()
        self.just(desk.told("lot a 5 0 2", "counts a", "leave a", "drop a", "names"), ("2", "0 1", "1 3 4", "0", "-"))
        self.just(desk.story, ("lot a 5 0 2", "leave a", "drop a"))

    def test_told_is_all_or_nothing(self):
        desk = Desk()
        desk.told("lot a 5 0 2", "turn a 1", "turn a 2")
        desk.undo()
        desk.undo()
        before = self.state(desk)
        self.assertEqual(before[1:], (("lot a 5 0 2",), ("turn a 1", "turn a 2")))
        for lines, index, error, fields in (
            (("book k 8", "drop a", "drop a"), 2, NoName, ("a",)), (("names", "turn a x"), 1, BadText, (0, 2)),
            (("lot a 5 0",), 0, Twice, ("a",)), (("leave a", None, 5), 1, BadText, (0, 0)),
            (("book k 8", "tell k size = 1", "strike k 1"), 2, NoSaying, (1,)),
            (("book k 2", "tell k marked 2", "x"), 1, Misfit, ("beats",)),
            (("book k 2",) + ("tell k size = 1",) * 11, 11, TooMany, ("sayings", 10)),
        ):
            for function in (desk.told, desk.tried):
                self.bad_line(index, error, fields, function, *lines)
                self.assertEqual(self.state(desk), before)
        with self.assertRaises(BadLine) as caught:
            desk.told("book k 3", "tell k size = 1", "tell k size = 2", "next k")
        self.assertIs(type(caught.exception.error), Impossible)
        self.just(caught.exception.error.paper.numbers, (0, 1))
        self.assertEqual(self.state(desk), before)

    def test_tried(self):
        desk = Desk()
        desk.told("lot a 5 0 2", "turn a 1")
        desk.undo()
        before = self.state(desk)
        self.just(desk.tried("lot b 5 1", "names", "drop a", "names"), ("1", "a b", "1", "b"))
        self.assertEqual(self.state(desk), before)
        self.just(desk.redo(), "turn a 1")

    def test_undo_and_redo(self):
        desk = Desk()
        lines = ("lot a 5 0 2", "turn a 0", "leave a", "book k 5", "drop a")
        desk.told(*lines)
        shelves = []
        for line in reversed(lines):
            shelves.append(desk.shelf)
            self.just(desk.undo(), line)
        self.just([desk.story, len(desk), "a" in desk], [(), 0, False])
        self.refused_nothing(desk.undo)
        for count, line in enumerate(lines):
            self.just(desk.redo(), line)
            self.just(desk.story, lines[:count + 1])
            self.assertTrue(desk.shelf == shelves[len(lines) - 1 - count])
        self.refused_nothing(desk.redo)

    def test_what_keeps_and_what_ends_redo(self):
        desk = Desk()
        desk.told("lot a 5 0 2", "turn a 1", "turn a 2")
        desk.undo()
        desk.undo()
        for line in ("names", "show a"):
            desk(line)
            desk.told(line, line)
        desk.tried("drop a")
        desk.told()
        for line in ("turn b 1", "x", None, "lot a 5 0"):
            outcome(desk, line)
            outcome(desk.told, "turn a 3", line)
            outcome(desk.tried, "turn a 3", line)
        self.just(desk.redo(), "turn a 1")
        self.just(desk.redo(), "turn a 2")
        self.refused_nothing(desk.redo)
        desk.undo()
        self.just(desk("turn a 0"), "1 3")
        self.refused_nothing(desk.redo)
        self.just(desk.story, ("lot a 5 0 2", "turn a 1", "turn a 0"))
        desk.undo()
        desk.told("names", "turn a 0")
        self.refused_nothing(desk.redo)

    def test_twin(self):
        desk = Desk()
        desk.told("lot a 5 0 2", "turn a 1")
        desk.undo()
        before = self.state(desk)
        twin = desk.twin()
        self.assertIs(type(twin), Desk)
        self.assertEqual(self.state(twin), before)
        twin.told("drop a", "book k 5")
        twin.undo()
        self.assertEqual(self.state(desk), before)
        other = desk.twin()
        desk("drop a")
        self.assertEqual(self.state(other), before)
        self.just(other.redo(), "turn a 1")

    def test_len_in_and_equality(self):
        desk, other = Desk(), Desk()
        desk.told("lot a 5 0 2", "strip s 1", "book k 5")
        self.just(len(desk), 3)
        for value in ("a", "s", "k"):
            self.assertIs(value in desk, True)
        for value in ("b", "", "A", None, True, 5, ["a"], ("a",), {}, Row([1, 0]), object(), ANY):
            self.assertIs(value in desk, False)
        self.assertFalse(desk == other)
        self.assertTrue(desk != other)
        other.told("lot a 5 1 3", "strip s 1", "turn a -1", "book k 5")
        self.assertTrue(desk == other)
        self.assertFalse(desk != other)
        other.told("drop a", "lot a 5 0 2")
        self.assertFalse(desk == other)
        for value in (None, 5, desk.shelf, "a", ()):
            self.assertFalse(desk == value)
            self.assertTrue(desk != value)

    def test_shelves_that_were_read_stay(self):
        desk = Desk()
        desk("lot a 5 0 2")
        shelf, story = desk.shelf, desk.story
        desk.told("turn a 1", "book k 5")
        self.assertTrue(shelf == Shelf([("a", Row.of(5, [0, 2]))]))
        self.just(story, ("lot a 5 0 2",))

    def test_things_keep_their_places(self):
        desk = Desk()
        desk.told("lot a 5 0 2", "strip s 1 2", "book k 5", "lot b 5 1")
        desk.told("tell k size = 1", "leave a", "mirror s", "strike k 0", "turn b 1", "stretch b 2")
        self.just(desk("names"), "a s k b")
        desk.told("drop s", "strip s 5")
        self.just(desk("names"), "a k b s")
        things = [thing for _, thing in desk.shelf.things]
        self.assertEqual(things, [Row.of(5, [1, 3, 4]), Book(5), Row.of(5, [4]), Strip([5])])

    def test_against_a_plain_desk(self):
        for seed in range(60):
            chance = random.Random(seed)
            desk, plain = Desk(), Plain()
            for _ in range(40):
                draw = chance.random()
                if draw < 0.12:
                    found = outcome(desk.undo)
                    if plain.lines:
                        plain.again.append(plain.lines.pop())
                        self.assertEqual(found, ("answer", plain.again[-1]))
                    else:
                        self.assertEqual(found, (Nothing, ()))
                elif draw < 0.24:
                    found = outcome(desk.redo)
                    if plain.again:
                        plain.lines.append(plain.again.pop())
                        self.assertEqual(found, ("answer", plain.lines[-1]))
                    else:
                        self.assertEqual(found, (Nothing, ()))
                elif draw < 0.36:
                    lines = chance.sample(LINES, 3)
                    kept = (list(plain.lines), list(plain.again))
                    wanted = self.plain_told(plain, lines)
                    is_tried = chance.random() < 0.5
                    self.assertEqual(outcome(desk.tried if is_tried else desk.told, *lines), wanted)
                    if is_tried or wanted[0] != "answer":
                        plain.lines, plain.again = kept
                else:
                    line = chance.choice(LINES)
                    self.assertEqual(outcome(desk, line), outcome(plain.tell, line))
                self.assertEqual(self.state(desk)[1:], (tuple(plain.lines), tuple(reversed(plain.again))))
                self.assertTrue(desk.shelf == plain.shelf())

    def plain_told(self, plain, lines):
        answers = []
        for index, line in enumerate(lines):
            found = outcome(plain.tell, line)
            if found[0] != "answer":
                return (BadLine, (index, found))
            answers.append(found[1])
        return ("answer", tuple(answers))

    def test_listed_methods_stand_in_the_class(self):
        for name in ("told", "tried", "undo", "redo", "twin", "__call__", "__len__", "__contains__", "__eq__"):
            self.assertIn(name, vars(Desk))

    def test_many_lines(self):
        desk = Desk()
        desk.told(*[f"lot a{number} 12 0 {number % 11 + 1}" for number in range(1500)])
        self.just([len(desk), len(desk.story), desk("show a1499")], [1500, 1500, "row 1 0 0 0 1 0 0 0 0 0 0 0"])
        for _ in range(700):
            desk.undo()
        self.just([len(desk), desk.redo()], [800, "lot a800 12 0 9"])
        self.assertTrue(replay(desk.story) == desk)


class TestReplay(Case):
    def test_replay(self):
        lines = ["lot a 5 0 2", "turn a 1", "book k 5", "tell k size = 1", "drop a"]
        for told in (lines, tuple(lines), [], ()):
            desk = replay(lines=told)
            self.assertIs(type(desk), Desk)
            self.just(desk.story, tuple(told))
            for line in reversed(told):
                self.just(desk.undo(), line)
            self.just(len(desk), 0)
        lines.append("x")
        self.just(len(replay(lines[:2]).story), 2)

    def test_refused(self):
        for value in NO_LISTS + (["drop a", None], [5], ["x", b"names"], "names", Desk()):
            self.refused(BadDesk, ("lines",), replay, value)
        for index, lines, error in (
            (0, ["names"], ("text", 0)), (1, ["book k 5", "kept k x y", "x"], ("text", 0)), (0, ["tells"], ("text", 0)),
            (0, ["x", "y"], ("text", 0)), (2, ["book k 5", "drop k", "drop k"], ("name", "k")),
            (1, ["book k 5", "turn k"], ("text", 2)), (0, [""], ("text", 0)),
        ):
            with self.assertRaises(BadLine) as caught:
                replay(lines)
            self.just(caught.exception.line, index)
            if error[0] == "text":
                self.refused_as(caught.exception.error, BadText, (0, error[1]))
            else:
                self.refused_as(caught.exception.error, NoName, (error[1],))
        for word in ASKS:
            for behind in ("", " a", " ? ?"):
                with self.assertRaises(BadLine) as caught:
                    replay(["lot a 5 0 2", word + behind])
                self.just(caught.exception.line, 1)
                self.refused_as(caught.exception.error, BadText, (0, 0))

    def refused_as(self, error, kind, fields):
        self.assertIs(type(error), kind)
        self.assertEqual(tuple(vars(error).values()), fields)


class TestMerged(Case):
    def test_refused(self):
        for function in (parting, merged):
            for value in NO_DESKS:
                self.refused(BadDesk, ("one",), function, value, None)
                self.refused(BadDesk, ("other",), function, Desk(), value)

    def test_parting(self):
        for one, other, wanted in (
            ((), (), 0), (("book k 5",), (), 0), (("book k 5",), ("book k 5",), 1), (("book k 5",), ("book k 6",), 0),
            (("book k 5", "drop k"), ("book k 5", "book l 5"), 1), (("book k 5", "drop k"), ("book k 5",), 1),
            (("book k 5", "drop k", "book a 2"), ("book k 5", "book b 5", "book a 2"), 1),
        ):
            self.just(parting(one=replay(one), other=replay(other)), wanted)
            self.just(parting(replay(other), replay(one)), wanted)

    def test_merged(self):
        base = ("book k 5", "lot a 5 0 2")
        one = replay(base + ("turn a 1", "drop k", "lot b 5 1"))
        other = replay(base + ("tell k size = 1", "leave a", "lot b 5 3", "drop b", "lot c 5 4"))
        desk, refused = merged(one=one, other=other)
        self.assertIs(type(desk), Desk)
        self.just(refused, (2, 4))
        self.just(desk.story, base + ("turn a 1", "drop k", "lot b 5 1", "leave a", "drop b", "lot c 5 4"))
        self.just(desk("names"), "a c")
        self.just([one("names"), other("names"), len(one.story), len(other.story)], ["a b", "k a c", 5, 7])
        self.just(desk.undo(), "lot c 5 4")
        self.just(len(one), 2)

    def test_nothing_is_left_to_do_again(self):
        one = replay(("book k 5", "drop k"))
        one.undo()
        for pair in ((one, Desk()), (Desk(), one), (one, one)):
            desk, refused = merged(*pair)
            self.assertIs(type(desk), Desk)
            self.just(refused, ())
            self.just(desk.story, ("book k 5",))
            with self.assertRaises(Nothing):
                desk.redo()
        self.just(one.redo(), "drop k")

    def test_against_plain_desks(self):
        for seed in range(40):
            chance = random.Random(seed)
            deeds = [line for line in LINES if line.split(" ")[0] in DEEDS]
            base = Desk()
            for line in chance.choices(deeds, k=6):
                outcome(base, line)
            one, other = base.twin(), base.twin()
            for line in chance.choices(deeds, k=12):
                outcome(one, line)
            for line in chance.choices(deeds, k=12):
                outcome(other, line)
            alike = len(list(itertools.takewhile(lambda pair: pair[0] == pair[1], zip(one.story, other.story))))
            self.just(parting(one, other), alike)
            plain, refused = Plain(), []
            for line in one.story:
                plain.tell(line)
            for index in range(alike, len(other.story)):
                if outcome(plain.tell, other.story[index])[0] != "answer":
                    refused.append(index)
            desk, told = merged(one, other)
            self.just(told, tuple(refused))
            self.just(desk.story, tuple(plain.lines))
            self.assertTrue(desk.shelf == plain.shelf())
