"""Bars of counts, lots with counts, and whether papers on them are right."""

import itertools
import math
from unittest.mock import ANY

from spanalike.check_spans import shows_bar, shows_lot
from spanalike.errors import BadNumber, NoDivisor, TooMany
from spanalike.papers import Denial, Paper
from spanalike.rows import Row
from spanalike.span_bars import CountsBar, HasLot, NoLot, counts_bar, number_at, some_lot
from spanalike.spans import distances
from tests.tools import (NO_INTEGERS, NO_LISTS, Case, all_lots, counts_of, divisors, is_square, share_numbers)

LONG = 10 ** 3999


def told(many, size, counts):
    """The spans told."""
    found = [size] + [0] * (many - 1)
    for distance in range(1, many // 2 + 1):
        if 2 * distance == many:
            found[distance] = 2 * counts[distance - 1]
        else:
            found[distance] = found[many - distance] = counts[distance - 1]
    return found


def number_of_divisor(many, size, counts, divisor):
    return sum(span * its for span, its in zip(told(many, size, counts), share_numbers(many, divisor)))


def is_form(number, form):
    most = math.isqrt(max(number, 0)) + 2
    return any(form(m, n) == number for m in range(-most, most + 1) for n in range(most + 1))


def triangle(m, n):
    return m * m + m * n + n * n


def squares(m, n):
    return m * m + n * n


def all_bars(many, size, counts):
    """All bars, in their order, as pairs."""
    found = []
    if sum(counts) != size * (size - 1) // 2:
        found.append(("pairs", sum(counts)))
    for divisor in divisors(many):
        number = number_of_divisor(many, size, counts, divisor)
        if number < 0:
            found.append(("share", divisor))
        if divisor == 2 and not is_square(number):
            found.append(("square", 2))
        if divisor in (3, 6) and (number % 2 or not is_form(number // 2, triangle)):
            found.append(("triangle", divisor))
        if divisor == 4 and (number % 2 or not is_form(number // 2, squares)):
            found.append(("squares", 4))
    return found


def some_counts():
    for many in range(2, 7):
        for size in range(many + 1):
            for counts in itertools.product(range(4), repeat=many // 2):
                yield many, size, counts
    for size in range(9):
        for counts in itertools.product(range(3), repeat=4):
            yield 8, size, counts
    for size, counts in ((4, (1, 1, 1, 1, 1, 1)), (6, (3, 3, 3, 2, 3, 1)), (5, (2, 2, 1, 2, 2, 1)),
                         (3, (1, 1, 0, 0, 1, 0)), (7, (4, 3, 4, 3, 4, 3)), (4, (0, 0, 6, 0, 0, 0)),
                         (4, (6, 0, 0, 0, 0, 0)), (4, (0, 0, 0, 1, 3, 2)),
                         (6, (0, 0, 2, 2, 7, 4)), (9, (2, 0, 8, 8, 8, 10))):
        yield 12, size, counts


class TestNumbers(Case):
    def test_number_at(self):
        for many, size, counts in some_counts():
            for divisor in divisors(many):
                self.just(number_at(many, size, counts, divisor), number_of_divisor(many, size, counts, divisor))
        self.just(number_at(many=2, size=1, counts=[LONG], divisor=2), 1 - 2 * LONG)

    def test_refused(self):
        for value in NO_INTEGERS + (0, 3, 5, -1, 16, LONG):
            self.refused(NoDivisor, (value,), number_at, 8, 3, [1, 1, 1, 0], value)

    def test_what_all_refuse(self):
        calls = (
            lambda many, size, counts: number_at(many, size, counts, None),
            counts_bar, some_lot,
            lambda many, size, counts: shows_bar(many, size, counts, None),
            lambda many, size, counts: shows_bar(many, size, counts, 5),
            lambda many, size, counts: shows_bar(many, size, counts, CountsBar("share", 2)),
            lambda many, size, counts: shows_lot(many, size, counts, None),
            lambda many, size, counts: shows_lot(many, size, counts, NoLot()),
        )
        for function in calls:
            for value in NO_INTEGERS + (1, 25):
                self.refused(BadNumber, ("many",), function, value, 99, None)
            for value in NO_INTEGERS + (-1, 9):
                self.refused(BadNumber, ("size",), function, 8, value, None)
            for value in NO_LISTS + ([], [1, 1, 1], [1, 1, 1, 1, 1], [1, 1, 1, -1]):
                self.refused(BadNumber, ("counts",), function, 8, 3, value)
            for value in NO_INTEGERS:
                self.refused(BadNumber, ("counts",), function, 8, 3, [1, value, 1, 1])
            self.refused(BadNumber, ("counts",), function, 20, 3, [1])


class TestBars(Case):
    def test_the_first_bar(self):
        kinds = set()
        for many, size, counts in some_counts():
            bars = all_bars(many, size, counts)
            found = counts_bar(many, size, list(counts))
            if not bars:
                self.assertIsNone(found)
            else:
                self.assertIs(type(found), CountsBar)
                self.just(found.parts, bars[0])
                kinds.add((found.kind, found.number if found.kind != "pairs" else 0))
        for wanted in (("pairs", 0), ("share", 2), ("square", 2), ("triangle", 3), ("triangle", 6), ("squares", 4)):
            self.assertIn(wanted, kinds)

    def test_no_lot_is_barred(self):
        for many in range(2, 9):
            for lot in all_lots(many):
                self.assertIsNone(counts_bar(many, lot.total, distances(lot)))

    def test_all_this_can_be_though_no_lot_has_the_counts(self):
        found = [
            (many, size, counts) for many, size, counts in some_counts()
            if counts_bar(many, size, counts) is None and not some_lot(many, size, counts)
        ]
        self.assertTrue(found)

    def test_shows_bar(self):
        for many, size, counts in itertools.islice(some_counts(), 0, None, 3):
            bars = all_bars(many, size, counts)
            self.assertIs(shows_bar(many, size, counts, None), not bars)
            for kind in ("pairs", "share", "square", "triangle", "squares", "other"):
                for number in divisors(many) + [sum(counts), 0, 5, -1]:
                    self.assertIs(shows_bar(many, size, counts, CountsBar(kind, number)), (kind, number) in bars)

    def test_bent_bars(self):
        self.assertIs(shows_bar(8, 1, [1, 0, 0, 0], CountsBar("pairs", 1)), True)
        for value in (CountsBar("pairs", True), CountsBar("pairs", 1.0), CountsBar("pairs", "1"),
                      CountsBar(["pairs"], 1),
                      CountsBar("pairs", None), CountsBar(None, 1), Denial("countsbar", "pairs", 1), NoLot(),
                      Paper("countsbar", "pairs", 1), ("pairs", 1), "pairs", 1, True, False, [], object(),
                      CountsBar(ANY, 1), CountsBar("pairs", ANY), CountsBar(ANY, ANY), ANY):
            self.assertIs(shows_bar(8, 1, [1, 0, 0, 0], value), False)
        # 1 is barred as no square, and True is no number
        self.assertIs(shows_bar(2, 0, [3], CountsBar("share", 2)), True)
        self.assertIs(shows_bar(2, 0, [3], CountsBar("share", True)), False)

    def test_numbers_of_six_digits(self):
        counts = [999983, 0, 5, 999999, 7, 0, 0, 0, 999999, 999983, 1, 0]
        self.assertIs(shows_bar(24, 12, counts, CountsBar("pairs", sum(counts))), True)
        for divisor in divisors(24):
            for kind in ("share", "square", "triangle", "squares"):
                self.assertIn(shows_bar(24, 12, counts, CountsBar(kind, divisor)), (True, False))


class TestLots(Case):
    def test_some_lot(self):
        for many in range(2, 8):
            known = {(lot.total, counts_of(many, lot.marks)) for lot in all_lots(many)}
            for size in range(many + 1):
                for counts in itertools.product(range(5), repeat=many // 2):
                    found = some_lot(many, size, list(counts))
                    if (size, counts) in known:
                        self.assertIs(type(found), HasLot)
                        self.assertEqual((found.lot.many, found.lot.total), (many, size))
                        self.assertEqual(counts_of(many, found.lot.marks), counts)
                        self.assertTrue(shows_lot(many, size, counts, found))
                        self.assertTrue(found == some_lot(many, size, counts))
                    else:
                        self.assertTrue(found == NoLot())
                    self.assertIs(shows_lot(many, size, counts, NoLot()), (size, counts) not in known)

    def test_any_lot_is_shown(self):
        counts = [1, 1, 1, 0]
        for lot in all_lots(8):
            wanted = lot.total == 3 and counts_of(8, lot.marks) == tuple(counts)
            self.assertIs(shows_lot(8, 3, counts, HasLot(lot)), wanted)

    def test_bent_papers(self):
        lot = Row.of(8, [0, 1, 3])
        self.assertIs(shows_lot(8, 3, (1, 1, 1, 0), HasLot(lot)), True)
        for value in (HasLot(None), HasLot((1, 1, 0, 1, 0, 0, 0, 0)), HasLot([0, 1, 3]), HasLot(Row.of(9, [0, 1, 3])),
                      HasLot(lot.times(-1)), HasLot(True), NoLot(), Paper("haslot", lot), Denial("nolot"), lot, None,
                      True, 5, "lot", [lot], CountsBar("pairs", 3), HasLot(Row([3] + [0] * 7)), HasLot(ANY), ANY):
            self.assertIs(shows_lot(8, 3, (1, 1, 1, 0), value), False)
            if value != NoLot():
                self.assertIs(shows_lot(8, 3, (1, 1, 1, 1), value), False)
        self.assertIs(shows_lot(8, 1, [0] * 4, HasLot(Row.of(8, []))), False)
        self.assertIs(shows_lot(8, 0, [0] * 4, HasLot(Row.of(8, [1]))), False)
        self.assertIs(shows_lot(9, 1, [0] * 4, HasLot(Row.of(8, [1]))), False)
        self.assertIs(shows_lot(8, 1, [0] * 4, HasLot(Row.of(9, [1]))), False)

    def test_sixteen_beats_and_seventeen(self):
        counts = [4, 4, 4, 4, 4, 4, 3, 1]
        found = some_lot(16, 8, counts)
        self.assertIs(shows_lot(16, 8, counts, found), True)
        self.assertIs(shows_lot(16, 8, counts, NoLot()), found == NoLot())
        self.assertEqual(distances(some_lot(16, 16, [16] * 7 + [8]).lot), (16,) * 7 + (8,))
        for value in (None, True, 5, NoLot(), HasLot(Row.of(17, [0]))):
            self.refused(TooMany, ("beats", 16), shows_lot, 17, 1, [0] * 8, value)
        self.refused(TooMany, ("beats", 16), some_lot, 17, 1, [0] * 8)

    def test_long_numbers(self):
        counts = [LONG] * 8
        self.assertTrue(some_lot(16, 8, counts) == NoLot())
        self.assertIs(shows_lot(16, 8, counts, NoLot()), True)
