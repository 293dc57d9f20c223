"""Strips that hush, papers on them: values, edges, refusals, and the facts of point 16 on them."""

import itertools
from unittest.mock import ANY

from spanalike.alike_strips import all_alike
from spanalike.check_together import shows_hush_bar, shows_hushed
from spanalike.errors import BadNumber, BadStrip, Misfit, TooMany
from spanalike.hushed import Hush, HushBar, Loud, alternated, behind, hush_bar, hushed, ring_lots, woven
from spanalike.hushed_lists import hushed_kinds, hushed_pairs
from spanalike.papers import Denial, Paper
from spanalike.rows import Row
from spanalike.strips import Strip
from spanalike.together import flat_together
from tests.tools import LONG, NO_INTEGERS, Case

NO_STRIPS = (None, True, 5, "1 1", [1, 1], (1, 1), {}, Row([1, 1]), object())
LEFT, RIGHT = Strip([1, 1, 1, -1]), Strip([1, 1, -1, 1])
TWO = (hushed, behind, woven, alternated, ring_lots, lambda one, other: shows_hushed(one, other, None),
       lambda one, other: shows_hushed(one, other, Hush(8)), lambda one, other: shows_hushed(one, other, Loud(1)))


def plain_spans(numbers):
    return [sum(numbers[i] * numbers[i + d] for i in range(len(numbers) - d)) for d in range(len(numbers))]


def added(one, other):
    return [here + there for here, there in zip(plain_spans(one), plain_spans(other))]


def signs(count):
    return list(itertools.product((-1, 1), repeat=count))


def plain_pairs(count):
    """All ordered pairs of tuples of 1 and -1 that hush, ascending."""
    by_spans = {}
    for numbers in signs(count):
        by_spans.setdefault(tuple(plain_spans(numbers)[1:]), []).append(numbers)
    return [(one, other) for one in signs(count)
            for other in by_spans.get(tuple(-span for span in plain_spans(one)[1:]), [])]


def other_signs(numbers):
    return tuple(-number for number in numbers)


def odd_signs(numbers):
    return tuple(-number if i % 2 else number for i, number in enumerate(numbers))


def plain_kinds(pairs):
    """The first of all pairs that come of one another, step by step."""
    left, firsts = set(pairs), []
    for pair in sorted(pairs):
        if pair in left:
            firsts.append(pair)
            todo = [pair]
            while todo:
                one, other = todo.pop()
                if (one, other) in left:
                    left.remove((one, other))
                    todo += [(one[::-1], other), (one, other[::-1]), (other_signs(one), other), (other, one),
                             (one, other_signs(other)), (odd_signs(one), odd_signs(other))]
    return firsts


def some_pairs():
    """Pairs of strips of one length: all sign strips of few numbers, strips of few numbers, long ones."""
    found = [(Strip(one), Strip(other)) for count in (1, 2, 3, 4) for one in signs(count) for other in signs(count)]
    rows = [row for row in itertools.product((-2, -1, 0, 1, 3), repeat=3) if row[0] and row[-1]]
    found += [(Strip(one), Strip(other)) for one, other in itertools.product(rows[::3], rows[::4])]
    found += [(Strip([1, 2]), Strip([2, -1])), (Strip([LONG, 1]), Strip([1, -LONG]))]
    found += [(Strip([5] * 41), Strip([-1] * 41))]
    return found


class TestHushed(Case):
    def test_hushed(self):
        words = set()
        for one, other in some_pairs():
            told = added(one.numbers, other.numbers)
            loud = [distance for distance in range(1, len(told)) if told[distance]]
            found = hushed(one=one, other=other)
            words.add(found.word)
            if loud:
                self.assertIs(type(found), Loud)
                self.just(found.parts, (loud[0],))
            else:
                self.assertIs(type(found), Hush)
                self.just(found.parts, (told[0],))
            self.assertIs(shows_hushed(one, other, found), True)
        self.assertEqual(words, {"hush", "loud"})
        self.just(hushed(Strip([3]), Strip([-4])).number, 25)

    def test_refused(self):
        for function in TWO:
            for value in NO_STRIPS:
                self.refused(BadStrip, ("one",), function, value, None)
                self.refused(BadStrip, ("other",), function, LEFT, value)
            self.refused(Misfit, ("length",), function, LEFT, Strip([1, 1, 1]))
            self.refused(Misfit, ("length",), function, Strip([1, 1, 1]), LEFT)
        for value in (Strip([1]), Strip([1] * 25), Strip([1, 0, 1]), Strip([1, 2]), Strip([-2, 1]), Strip([1, LONG])):
            self.refused(BadStrip, ("one",), ring_lots, value, None)
            self.refused(BadStrip, ("other",), ring_lots, Strip([1, 1, 1]), value)


class TestBar(Case):
    def plain_bars(self, beats):
        found = [("odd", beats)] if beats > 1 and beats % 2 else []
        for prime in range(3, beats + 1, 4):
            if beats % prime == 0 and all(prime % less for less in range(2, prime)):
                times = max(n for n in range(1, 12) if beats % prime ** n == 0)
                if times % 2:
                    found.append(("squares", prime))
        return found

    def test_bar(self):
        for beats in list(range(1, 260)) + [900, 1000, 1323, 9 * 49 * 2, 27 * 49 * 2]:
            wanted = self.plain_bars(beats)
            found = hush_bar(beats=beats)
            if wanted:
                self.assertIs(type(found), HushBar)
                self.just(found.parts, wanted[0])
            else:
                self.assertIs(found, None)
            self.assertIs(shows_hush_bar(beats, found), True)
            self.assertIs(shows_hush_bar(beats, None), not wanted)
            for kind in ("odd", "squares"):
                for number in list(range(-1, 60)) + [beats]:
                    self.assertIs(shows_hush_bar(beats, HushBar(kind, number)), (kind, number) in wanted)

    def test_edges(self):
        self.assertIs(hush_bar(1), None)
        self.assertIs(hush_bar(1000000), None)
        self.just(hush_bar(999999).parts, ("odd", 999999))
        self.just(hush_bar(999998).parts, ("squares", 31))
        self.just(hush_bar(2 * 499979).parts, ("squares", 499979))
        self.assertIs(shows_hush_bar(2 * 499979, HushBar("squares", 499979)), True)

    def test_bent(self):
        for value in (None, True, False, "odd", ("odd", 21), HushBar, ANY, HushBar("odd", 21.0), HushBar("odd", True),
                      HushBar("odd", ANY), HushBar(ANY, 21), HushBar(None, 21), HushBar("odd", None),
                      HushBar("odd", "21"),
                      HushBar("Odd", 21), HushBar("squares", 21), HushBar("squares", 1), HushBar("squares", 0),
                      HushBar("squares", -3), HushBar("squares", LONG), HushBar("squares", (3,)), HushBar("odd", 3),
                      HushBar(("odd",), 21), HushBar("primes", 7), HushBar("", 3), HushBar("count", 21),
                      Denial("hushbar", "odd", 21), Paper("hushbar", "odd", 21), Loud(1)):
            self.assertIs(shows_hush_bar(21, value), False)
        for value in (HushBar("odd", 21), HushBar("squares", 3), HushBar("squares", 7)):
            self.assertIs(shows_hush_bar(beats=21, value=value), True)
        for value in (True, False, 0, (), [], HushBar("odd", 1), HushBar("odd", 10)):
            self.assertIs(shows_hush_bar(10, value), False)
            self.assertIs(shows_hush_bar(1, value), False)

    def test_refused(self):
        for value in NO_INTEGERS + (0, -1, 1000001, LONG):
            self.refused(BadNumber, ("beats",), hush_bar, value)
            for paper in (None, HushBar("odd", 3), HushBar("squares", 3), 5):
                self.refused(BadNumber, ("beats",), shows_hush_bar, value, paper)


class TestOthers(Case):
    def test_behind_woven_alternated(self):
        for one, other in some_pairs():
            here, there = one.numbers, other.numbers
            against = other_signs(there)
            if len(here) <= 20:
                self.just([strip.numbers for strip in behind(one=one, other=other)], [here + there, here + against])
                mixed = [tuple(n for pair in zip(here, its) for n in pair) for its in (there, against)]
                self.just([strip.numbers for strip in woven(one=one, other=other)], mixed)
                self.assertIsInstance(woven(one, other), tuple)
                self.assertIsInstance(behind(one, other), tuple)
            found = alternated(one=one, other=other)
            self.just([strip.numbers for strip in found], [odd_signs(here), odd_signs(there)])
            self.assertIsInstance(found, tuple)

    def test_too_long(self):
        for function in (behind, woven):
            self.just([strip.length for strip in function(Strip([1] * 20), Strip([1] * 20))], [39, 39])
            self.refused(TooMany, ("length", 40), function, Strip([1] * 21), Strip([2] * 21))
            self.refused(TooMany, ("length", 40), function, Strip([1] * 41), Strip([2] * 41))
            self.refused(Misfit, ("length",), function, Strip([1] * 41), Strip([2] * 40))

    def test_ring_lots(self):
        for count in (2, 3, 4):
            for one, other in itertools.product(signs(count), repeat=2):
                found = ring_lots(one=Strip(one), other=Strip(other))
                wanted = [tuple(i for i in range(count) if told[i] == 1) for told in (one, other)]
                self.just([lot.marks for lot in found], wanted)
                self.assertIsInstance(found, tuple)
                self.assertTrue(all(lot.is_lot and lot.many == count for lot in found))
        self.just([lot.total for lot in ring_lots(Strip([1] * 24), Strip([-1] * 24))], [24, 0])


class TestLists(Case):
    def test_pairs(self):
        for count in range(1, 9):
            found = hushed_pairs(beats=count)
            self.just(tuple((one.numbers, other.numbers) for one, other in found), tuple(plain_pairs(count)))
            self.assertIsInstance(found, tuple)
        self.just([len(hushed_pairs(count)) for count in range(1, 9)], [4, 8, 0, 32, 0, 0, 0, 192])

    def test_kinds(self):
        for count in range(1, 9):
            found = hushed_kinds(beats=count)
            wanted = plain_kinds(plain_pairs(count))
            self.just(tuple((one.numbers, other.numbers) for one, other in found), tuple(wanted))
            self.assertIsInstance(found, tuple)
        self.just([len(hushed_kinds(count)) for count in (1, 2, 4, 8)], [1, 1, 1, 5])

    def test_refused(self):
        for function in (hushed_pairs, hushed_kinds):
            for value in NO_INTEGERS + (0, -1):
                self.refused(BadNumber, ("beats",), function, value)
            for value in (9, 10, LONG):
                self.refused(TooMany, ("beats", 8), function, value)


NO_PAPERS = (None, True, False, 1, 8, "hush", (8,), [1], object(), ANY, Hush, Loud, Paper("hush", 8),
             Denial("loud", 1), Denial("loud", 3))


class TestShowsHushed(Case):
    def test_all_values(self):
        for one, other in some_pairs()[::3]:
            told = added(one.numbers, other.numbers)
            quiet = not any(told[1:])
            for number in (-1, 0, 1, 2, 4, 8, told[0], told[0] + 1):
                self.assertIs(shows_hushed(one, other, Hush(number)), quiet and number == told[0])
            for distance in range(-2, len(told) + 2):
                right = 1 <= distance < len(told) and told[distance] != 0
                self.assertIs(shows_hushed(one=one, other=other, value=Loud(distance)), right)

    def test_bent(self):
        for value in NO_PAPERS + (Hush(8.0), Hush("8"), Hush(ANY), Hush(None), Hush((8,)), Hush(LONG), Loud(1),
                                  Loud(0)):
            self.assertIs(shows_hushed(LEFT, RIGHT, value), False)
        self.assertIs(shows_hushed(LEFT, RIGHT, Hush(8)), True)
        for value in NO_PAPERS + (Loud(True), Loud(1.0), Loud("1"), Loud(ANY), Loud(None), Loud((1,)), Loud(4),
                                  Loud(-1),
                                  Loud(LONG), Hush(8)):
            self.assertIs(shows_hushed(LEFT, LEFT, value), False)
        self.assertIs(shows_hushed(LEFT, LEFT, Loud(3)), True)
        # 0 and 1 squared: an added span of 1 is no True
        self.assertIs(shows_hushed(Strip([1]), Strip([1]), Hush(2)), True)
        self.assertIs(shows_hushed(Strip([1, 1]), Strip([1, 1]), Loud(True)), False)


class TestFacts(Case):
    def test_strips_that_hush_still_do(self):
        for one, other in some_pairs():
            if len(one.numbers) < 10:
                word = hushed(one, other).word
                for pair in ((other, one), (one.backward(), other), (one, other.times(-1)), alternated(one, other)):
                    self.assertEqual(hushed(*pair).word, word)
                self.assertEqual(hushed(*behind(one, other)).word, word)
                self.assertEqual(hushed(*woven(one, other)).word, word)
        for one, other in hushed_pairs(8)[::7]:
            for kin in all_alike(one):
                self.assertTrue(hushed(kin, other))

    def test_sign_strips(self):
        for count in range(2, 9):
            pairs = hushed_pairs(count)
            for one, other in pairs:
                self.assertEqual(one.total ** 2 + other.total ** 2, 2 * count)
                for i in range(count):
                    ends = one.at(i) * one.at(count - 1 - i) * other.at(i) * other.at(count - 1 - i)
                    self.assertEqual(ends, -1)
                lots = ring_lots(one, other)
                self.assertEqual(flat_together(lots).number, lots[0].total + lots[1].total - count // 2)
            if hush_bar(count) is not None:
                self.assertEqual(pairs, ())

    def test_for_10(self):
        self.assertEqual(len(plain_pairs(10)), 128)
        self.assertIs(hush_bar(10), None)
        self.assertIs(hush_bar(18), None)
