"""Lots on a line that are told by their distances, and the facts of point 9 on them."""

import itertools

from spanalike.alike_strips import alike_strips
from spanalike.errors import BadNumber, BadStrip, TooMany
from spanalike.strips import Strip, strip_distances
from spanalike.told_strips import StripBar, alike_strip_lots, strip_bar, strip_families, told_strips
from tests.test_strips import NO_STRIPS
from tests.tools import NO_INTEGERS, NO_LISTS, Case, is_square

LONG = 10 ** 3999 + 9


def line_marks(length):
    """The marks of all lots on a line of this length."""
    if length == 0:
        return [(0,)]
    return [
        (0,) + inner + (length,) for count in range(length)
        for inner in itertools.combinations(range(1, length), count)
    ]


def line_distances(marks):
    found = [0] * marks[-1]
    for one, other in itertools.combinations(marks, 2):
        found[other - one - 1] += 1
    return tuple(found)


def least(marks):
    return min(marks, tuple(marks[-1] - mark for mark in marks[::-1]))


def leasts_by_distances(length):
    """For each distances the ascending list of the leasts of the lots that have them."""
    found = {}
    for marks in line_marks(length):
        found.setdefault(line_distances(marks), set()).add(least(marks))
    return {distances: sorted(marks) for distances, marks in found.items()}


class TestTold(Case):
    def test_told_strips(self):
        for length in range(9):
            known = leasts_by_distances(length)
            for distances, wanted in known.items():
                found = told_strips(distances=list(distances))
                self.just([lot.marks for lot in found], wanted)
                self.assertIsInstance(found, tuple)
            for distances in itertools.product(range(3), repeat=max(0, min(length, 6) - 1)):
                told = distances + (1,) if length else ()
                wanted = leasts_by_distances(len(told)).get(told, [])
                self.just([lot.marks for lot in told_strips(told)], wanted)

    def test_many_alike(self):
        for length in (11, 12):
            for distances, wanted in leasts_by_distances(length).items():
                if len(wanted) > 1:
                    self.just([lot.marks for lot in told_strips(distances)], wanted)

    def test_edges(self):
        self.just([lot.marks for lot in told_strips([])], [(0,)])
        self.just([lot.marks for lot in told_strips(())], [(0,)])
        self.just([lot.marks for lot in told_strips([1])], [(0, 1)])
        self.just([lot.marks for lot in told_strips([0] * 15 + [1])], [(0, 16)])
        self.just([lot.marks for lot in told_strips([16 - index for index in range(16)])], [tuple(range(17))])
        self.just(told_strips([999999] * 15 + [1]), ())
        self.just(told_strips([LONG, 1]), ())

    def test_refused(self):
        for function in (told_strips, strip_bar):
            for value in NO_LISTS + ([0], [2], [1, 0], [-1, 1], [1, 1, 2], [1] * 30 + [0]):
                self.refused(BadNumber, ("distances",), function, value)
            for value in NO_INTEGERS:
                self.refused(BadNumber, ("distances",), function, [1, value])
                self.refused(BadNumber, ("distances",), function, [value] + [0] * 20 + [1])
            self.refused(TooMany, ("length", 16), function, [0] * 16 + [1])
            self.refused(TooMany, ("length", 16), function, [LONG] * 99 + [1])


class TestBars(Case):
    def test_bars(self):
        for length in range(6):
            for ahead in itertools.product(range(4), repeat=max(length - 1, 0)):
                told = ahead + (1,) if length else ()
                pairs = sum(told)
                sizes = [size for size in range(1, 20) if size * (size - 1) == 2 * pairs]
                found = strip_bar(distances=told)
                if not sizes:
                    self.assertTrue(found == StripBar("pairs", pairs))
                    self.just(found.parts, ("pairs", pairs))
                    continue
                number = sizes[0]
                for index, count in enumerate(told):
                    number += 2 * count if index % 2 else -2 * count
                if is_square(number):
                    self.assertIs(found, None)
                else:
                    self.assertIs(type(found), StripBar)
                    self.just(found.parts, ("square", number))

    def test_edges(self):
        self.assertIs(strip_bar([]), None)
        self.assertIs(strip_bar([1]), None)
        self.just(strip_bar([0] * 13 + [2, 1]).parts, ("square", 5))
        self.just(strip_bar([0] * 14 + [5, 1]).parts, ("square", -4))
        self.assertIs(strip_bar([0] * 14 + [2, 1]), None)
        self.just(strip_bar([LONG] * 15 + [1]).kind, "pairs")
        self.just(strip_bar([5, 0, 1]).parts, ("square", -8))

    def test_no_lot_is_barred(self):
        for length in range(10):
            for marks in line_marks(length):
                self.assertIs(strip_bar(line_distances(marks)), None)

    def test_it_can_be_so_though_no_lot_has_the_distances(self):
        found = [
            told for told in itertools.product(range(4), repeat=4)
            if strip_bar(told + (1,)) is None and told_strips(told + (1,)) == ()
        ]
        self.assertTrue(found)


class TestAlike(Case):
    def test_alike_lots(self):
        for length in (0, 1, 2, 5, 7, 11):
            for wanted in leasts_by_distances(length).values():
                for marks in wanted if length < 11 else wanted * (len(wanted) > 1):
                    lot = Strip.of(marks)
                    self.just([other.marks for other in alike_strip_lots(lot=lot)], wanted)
                    self.just([other.marks for other in alike_strip_lots(lot.backward())], wanted)

    def test_bounds(self):
        self.just([lot.marks for lot in alike_strip_lots(Strip([1] * 17))], [tuple(range(17))])
        self.just([lot.marks for lot in alike_strip_lots(Strip.of([0, 2, 9, 15, 16]))],
                  sorted(leasts_by_distances(16)[line_distances((0, 2, 9, 15, 16))]))
        self.refused(TooMany, ("length", 16), alike_strip_lots, Strip([1] * 18))
        for value in NO_STRIPS + (Strip([1, 2]), Strip([-1]), Strip([1, -1] + [1] * 30)):
            self.refused(BadStrip, ("lot",), alike_strip_lots, value)

    def test_families(self):
        for length in range(13):
            wanted = sorted(marks for marks in leasts_by_distances(length).values() if len(marks) > 1)
            found = strip_families(length=length)
            self.just([[lot.marks for lot in lots] for lots in found], wanted)
            self.assertEqual(len(wanted) > 0, length > 10)
            self.assertIsInstance(found, tuple)
            for lots in found:
                self.assertIsInstance(lots, tuple)

    def test_families_refused(self):
        for value in NO_INTEGERS + (-1, -LONG):
            self.refused(BadNumber, ("length",), strip_families, value)
        self.refused(TooMany, ("length", 12), strip_families, 13)
        self.refused(TooMany, ("length", 12), strip_families, LONG)


class TestFacts(Case):
    def test_alike_lots_have_factors(self):
        for lots in strip_families(11) + strip_families(12):
            for one, other in itertools.combinations(lots, 2):
                self.assertEqual(strip_distances(one), strip_distances(other))
                found = alike_strips(one, other)
                self.assertEqual(found.sign, 1)
                self.assertGreater(found.common.length, 0)
                self.assertGreater(found.rest.length, 0)
