"""Bridges, what is alike, families, whether papers on them are right, and the facts of point 8."""

import itertools
import math
from unittest.mock import ANY

from spanalike.alike import UnlikeSpan, alike
from spanalike.bridges import Bridge, flip_bridge, is_bridge, joined_bridges, led, undone_bridge
from spanalike.check_alike import shows_alike, shows_family
from spanalike.classes import least_wide
from spanalike.errors import BadNumber, BadPaper, BadRow, Misfit, NoDivisor, TooMany, Twice
from spanalike.families import Family, alike_lots, alike_rows, families, product_pair
from spanalike.papers import Denial, Paper
from spanalike.quotients import Quotient
from spanalike.rows import Row
from spanalike.shares import silent_divisors
from spanalike.spans import spans
from tests.tools import (NO_INTEGERS, NO_LISTS, NO_ROWS, Case, all_lots, all_rows, cross, divisors, product,
                         share_numbers, some_rows, units)

LONG = 10 ** 3999 + 9
OVER = Bridge([1, 1, 1, -3, 1, 1, 1, 1], 4)
ONE, OTHER = Row.of(8, [0, 1, 3, 4]), Row.of(8, [0, 1, 2, 5])
NO_BRIDGES = (None, True, 5, ((1, 0), 1), Paper("bridge", (1, 0), 1), Quotient([1, 0], 1), Bridge([1, 1], 1),
              Bridge([1], 1), Bridge([2, 0], 2), Bridge([1, 0], True), Bridge([True, 0], 1), Bridge([1, 0], -1),
              Bridge([1] + [0] * 24, 1), Bridge(None, 1), Bridge([0, 0], 0), Bridge("10", 1), Row([1, 0]), object())


def is_plain_bridge(numbers, by):
    found = cross(numbers, numbers)
    return by > 0 and math.gcd(by, *numbers) == 1 and found[0] == by * by and not any(found[1:])


def is_the_bridge(one, numbers, by):
    """Whether a bridge has the shares of the one mark where a row is silent."""
    return all(
        product(numbers, shares) == tuple(by * its for its in shares)
        for shares in [share_numbers(one.many, divisor) for divisor in divisors(one.many)]
        if not any(product(one.numbers, shares))
    )


def small_bridges(many, most):
    """All bridges of a ring with by at most so much."""
    for by in range(1, most + 1):
        for numbers in itertools.product(range(-by, by + 1), repeat=many):
            if sum(number * number for number in numbers) == by * by and is_plain_bridge(numbers, by):
                yield Bridge(numbers, by)


class TestBridges(Case):
    def test_is_bridge(self):
        for many, most in ((2, 4), (3, 4), (4, 3)):
            for by in range(-1, most + 1):
                for numbers in itertools.product(range(-most, most + 1), repeat=many):
                    self.assertIs(is_bridge(numbers, by), is_plain_bridge(numbers, by))
        self.assertIs(is_bridge(numbers=list(OVER.numbers), by=4), True)
        self.assertIs(is_bridge([1] + [0] * 23, 1), True)
        self.assertIs(is_bridge([-1, 0], 1), True)
        self.assertIs(is_bridge([3, 4], 5), False)
        self.assertIs(is_bridge([0, 3, 4, 0], 5), False)

    def test_any_values(self):
        for value in NO_LISTS + NO_INTEGERS:
            self.assertIs(is_bridge(value, 1), False)
            self.assertIs(is_bridge([1, 0], value), False)
            self.assertIs(is_bridge([1, value], 1), False)
        for numbers in ([], [1], [1] + [0] * 24, [[1, 0]], Row([1, 0])):
            self.assertIs(is_bridge(numbers, 1), False)

    def test_joined_and_undone(self):
        for many, most in ((2, 3), (3, 3), (4, 2), (6, 3)):
            bridges = list(small_bridges(many, most))
            for one in bridges:
                self.just(undone_bridge(one).parts, (tuple(one.numbers[-beat] for beat in range(many)), one.by))
            for one, other in itertools.product(bridges[:20] + bridges[-5:], repeat=2):
                numbers, by = product(one.numbers, other.numbers), one.by * other.by
                common = math.gcd(by, *numbers)
                wanted = (tuple(number // common for number in numbers), by // common)
                self.just(joined_bridges(one=one, other=other).parts, wanted)
        self.assertIs(type(undone_bridge(bridge=OVER)), Bridge)

    def test_flips(self):
        for many in (2, 3, 6, 8, 12, 24):
            for count in range(len(divisors(many)) + 1):
                for chosen in itertools.combinations(divisors(many), count):
                    found = flip_bridge(many, chosen[::-1])
                    self.assertTrue(is_plain_bridge(found.numbers, found.by))
                    for divisor in divisors(many):
                        shares = share_numbers(many, divisor)
                        times = -found.by if divisor in chosen else found.by
                        self.assertEqual(product(found.numbers, shares), tuple(times * its for its in shares))
        self.just(flip_bridge(many=5, divisors=[]).parts, ((1, 0, 0, 0, 0), 1))

    def test_led(self):
        self.assertTrue(led(row=ONE, bridge=OVER) == OTHER)
        self.assertIsNone(led(Row.one_mark(8), OVER))
        bridges = list(small_bridges(4, 4))
        for row in all_rows(4, (0, 1, 2)):
            for bridge in bridges:
                numbers = product(row.numbers, bridge.numbers)
                if any(number % bridge.by for number in numbers):
                    self.assertIsNone(led(row, bridge))
                else:
                    self.just(led(row, bridge).numbers, tuple(number // bridge.by for number in numbers))

    def test_bridges_refused(self):
        one = Bridge([1, 0], 1)
        for value in NO_BRIDGES:
            self.refused(BadPaper, ("one",), joined_bridges, value, value)
            self.refused(BadPaper, ("other",), joined_bridges, one, value)
            self.refused(BadPaper, ("bridge",), undone_bridge, value)
            self.refused(BadPaper, ("bridge",), led, ONE, value)
        for value in NO_ROWS:
            self.refused(BadRow, ("row",), led, value, None)
        self.refused(Misfit, ("beats",), joined_bridges, one, OVER)
        self.refused(Misfit, ("beats",), joined_bridges, OVER, one)
        self.refused(Misfit, ("beats",), led, Row([1, 0]), OVER)
        self.refused(Misfit, ("beats",), led, ONE, one)

    def test_flips_refused(self):
        for value in NO_INTEGERS + (1, 25):
            self.refused(BadNumber, ("many",), flip_bridge, value, None)
        for value in NO_LISTS:
            self.refused(BadNumber, ("divisors",), flip_bridge, 6, value)
        for value in NO_INTEGERS + (0, 4, 12, -2):
            self.refused(NoDivisor, (value,), flip_bridge, 6, [2, 2, value, 5])
        self.refused(Twice, (3,), flip_bridge, 6, [2, 3, 1, 3, 2])

    def test_long_numbers(self):
        # by the squares of LONG and 1: a right bridge on two beats needs one of its numbers 0
        bridge = Bridge([LONG, 0], LONG)
        self.assertIs(is_bridge(bridge.numbers, bridge.by), False)
        row = Row([LONG, 1, LONG, 5])
        other = row.mirrored().turned(1)
        found = alike(row, other)
        self.assertTrue(led(row, found) == other)
        self.assertIs(is_bridge(found.numbers, found.by), True)
        self.assertTrue(led(other, undone_bridge(found)) == row)
        self.assertTrue(joined_bridges(found, undone_bridge(found)) == Bridge([1, 0, 0, 0], 1))
        self.assertIs(shows_alike(row, other, found), True)


class TestAlike(Case):
    def pairs(self):
        for many in (2, 3, 4, 5):
            yield from itertools.product(all_lots(many), repeat=2)
        yield from itertools.product(all_rows(3, (-1, 0, 2)), repeat=2)
        lots = [lot for lot in all_lots(8) if lot.total == 4]
        yield from itertools.product(lots[::8], lots[::3])
        for row in some_rows()[-12:]:
            yield row, row.turned(2).mirrored().times(-1)
            yield row, row.left_out()

    def test_alike(self):
        for one, other in self.pairs():
            here, there = cross(one.numbers, one.numbers), cross(other.numbers, other.numbers)
            found = alike(one=one, other=other)
            unlike = [beat for beat in range(one.many) if here[beat] != there[beat]]
            if unlike:
                self.assertIs(type(found), UnlikeSpan)
                self.just(found.parts, (unlike[0],))
            else:
                self.assertIs(type(found), Bridge)
                self.assertTrue(is_plain_bridge(found.numbers, found.by))
                wanted = tuple(number * found.by for number in other.numbers)
                self.assertEqual(product(one.numbers, found.numbers), wanted)
                self.assertTrue(is_the_bridge(one, found.numbers, found.by))
            self.assertIs(shows_alike(one, other, found), True)
            for beat in range(-1, one.many + 1):
                self.assertIs(shows_alike(one, other, UnlikeSpan(beat)), beat in unlike)

    def test_of_four_and_six(self):
        found = alike(Row.of(12, [0, 1, 4, 6]), Row.of(12, [0, 1, 3, 7]))
        self.just(found.parts, ((1, 1, 0, 1, -1, -2, 1, 1, 0, 1, -1, 2), 4))

    def test_refused(self):
        for function in (alike, product_pair, lambda one, other: shows_alike(one, other, None)):
            for value in NO_ROWS:
                self.refused(BadRow, ("one",), function, value, value)
                self.refused(BadRow, ("other",), function, ONE, value)
            self.refused(Misfit, ("beats",), function, ONE, Row([1, 0]))
            self.refused(Misfit, ("beats",), function, Row([1, 0]), ONE)

    def test_other_right_bridges(self):
        flip = flip_bridge(8, [2])
        self.assertIs(shows_alike(ONE, OTHER, OVER), True)
        self.assertIs(shows_alike(ONE, OTHER, joined_bridges(flip, OVER)), True)
        self.assertIs(shows_alike(ONE, ONE, flip), True)
        self.assertIs(shows_alike(OTHER, ONE, OVER), False)
        self.assertIs(shows_alike(ONE, ONE, OVER), False)

    def test_bent_papers(self):
        for value in (Bridge([1, 1, 1, -3, 1, 1, 1, True], 4), Bridge([2, 2, 2, -6, 2, 2, 2, 2], 8),
                      Bridge(OVER.numbers, 5),
                      Bridge(OVER.numbers, -4), Bridge([1, 0], 1), Bridge(None, None), Bridge(OVER.numbers, 4.0),
                      Paper("bridge", OVER.numbers, 4), Quotient(OVER.numbers, 4), OVER.parts, None, True, 0, "",
                      UnlikeSpan(0), UnlikeSpan(8), UnlikeSpan(True), UnlikeSpan(None), ANY, Bridge(ANY, 4),
                      Bridge(OVER.numbers, ANY), Bridge([1] + [0] * 8, 1), Bridge([1] + [0] * 23, 1)):
            self.assertIs(shows_alike(ONE, OTHER, value), False)
        unlike = Row.of(8, [0, 1, 2, 4])
        self.assertIs(shows_alike(ONE, unlike, UnlikeSpan(2)), True)
        for value in (UnlikeSpan(True), UnlikeSpan(2.0), UnlikeSpan("2"), UnlikeSpan([2]), UnlikeSpan(10),
                      UnlikeSpan(-6),
                      Denial("unlikespan", 2), OVER):
            self.assertIs(shows_alike(ONE, unlike, value), False)

    def test_long_numbers_shown(self):
        row = Row([LONG, 1, 0, 7])
        self.assertIs(shows_alike(row, row.added(Row([0, 1, 0, 0])), UnlikeSpan(0)), True)


def plain_families(many, size):
    """The families of a size, by going through all lots."""
    found = {}
    for lot in all_lots(many):
        if lot.total == size:
            found.setdefault(cross(lot.numbers, lot.numbers), set()).add(least_wide(lot).marks)
    return found


class TestFamilies(Case):
    def test_families(self):
        for many in range(2, 11):
            for size in range(many + 1):
                wanted = sorted(tuple(sorted(lots)) for lots in plain_families(many, size).values() if len(lots) > 1)
                found = families(many, size)
                self.assertIsInstance(found, tuple)
                self.assertTrue(all(isinstance(lots, tuple) for lots in found))
                self.assertEqual([tuple(lot.marks for lot in lots) for lots in found], wanted)

    def test_alike_lots(self):
        for many in (2, 3, 6, 8):
            for lot in all_lots(many)[::3] + [Row.of(many, []), Row([1] * many)]:
                found = alike_lots(lot=lot)
                wanted = sorted(plain_families(many, lot.total)[cross(lot.numbers, lot.numbers)])
                self.assertIs(type(found), Family)
                self.assertEqual([least.marks for least in found.lots], wanted)
                self.assertEqual(len(found.bridges), len(wanted))
                for least, bridge in zip(found.lots, found.bridges):
                    self.assertTrue(bridge == alike(lot, least))
                self.assertIs(shows_family(lot, found), True)

    def test_edges(self):
        self.assertEqual(len(families(14, 7)), len(families(many=14, size=7)))
        self.refused(TooMany, ("beats", 14), families, 15, 3)
        lot = Row.of(16, [0, 1, 2, 5, 7, 10, 14, 15])
        self.assertIs(shows_family(lot, alike_lots(lot)), True)
        for value in (None, True, 7, Family([], [])):
            self.refused(TooMany, ("beats", 16), shows_family, Row.of(17, [0]), value)
        self.refused(TooMany, ("beats", 16), alike_lots, Row.of(17, [0]))

    def test_refused(self):
        for value in NO_INTEGERS + (1, 25):
            self.refused(BadNumber, ("many",), families, value, 99)
        for value in NO_INTEGERS + (-1, 7):
            self.refused(BadNumber, ("size",), families, 6, value)
        self.refused(BadNumber, ("size",), families, 20, 21)
        for value in NO_ROWS + (Row([2, 0]), Row([2] * 17)):
            self.refused(BadRow, ("lot",), alike_lots, value)
            self.refused(BadRow, ("lot",), shows_family, value, None)

    def test_other_right_families(self):
        found, flip = alike_lots(ONE), flip_bridge(8, [2])
        others = [joined_bridges(flip, bridge) for bridge in found.bridges]
        self.assertIs(shows_family(ONE, Family(list(found.lots), others)), True)
        self.assertIs(shows_family(lot=ONE, value=Family(found.lots, [others[0], found.bridges[1]])), True)

    def test_bent_families(self):
        found = alike_lots(ONE)
        lots, bridges = found.lots, found.bridges
        for value in (Family(lots[::-1], bridges[::-1]), Family(lots, bridges[::-1]), Family(lots, bridges[:1]),
                      Family(lots[:1], bridges[:1]), Family(lots + lots[:1], bridges + bridges[:1]), Family((), ()),
                      Family([lot.turned(1) for lot in lots], bridges), Family([lot.numbers for lot in lots], bridges),
                      Family(None, bridges), Family(lots, None), Family(lots, [None, None]), Family(True, True),
                      Family(lots, [bridges[0].parts, bridges[1].parts]), Family(lots, [Bridge([1, 0], 1)] * 2),
                      Family(lots, list(bridges) + [None]), ANY, Family([ANY, ANY], bridges),
                      Family(lots, [ANY, ANY]), Family(ANY, bridges), Paper("family", lots, bridges), (lots, bridges),
                      None, True,
                      5, "family", OVER):
            self.assertIs(shows_family(ONE, value), False)


class TestAlikeRows(Case):
    def test_all_rows(self):
        for row in all_rows(3, (-1, 0, 1, 2)) + [Row([2, 1, 0, 1]), Row([0, 0]), Row([3, 1]), Row([1, -1, 0, 1, 1])]:
            square = sum(number * number for number in row.numbers)
            if square <= 12:
                most = math.isqrt(square)
                its = cross(row.numbers, row.numbers)
                wanted = [
                    numbers for numbers in itertools.product(range(-most, most + 1), repeat=row.many)
                    if cross(numbers, numbers) == its
                ]
                found = alike_rows(row)
                self.assertIsInstance(found, tuple)
                self.assertEqual([other.numbers for other in found], wanted)

    def test_six_beats_and_a_span_of_twelve(self):
        self.assertEqual(len(alike_rows(Row([1, 1, 0, 0, 0, -1]))), 36)
        self.assertIn(Row([2, 2, 2, 0, 0, 0]), alike_rows(row=Row([2, 2, 2, 0, 0, 0])))
        self.refused(TooMany, ("beats", 6), alike_rows, Row([0] * 7))
        self.refused(TooMany, ("beats", 6), alike_rows, Row([9] * 7))
        self.refused(TooMany, ("span", 12), alike_rows, Row([2, 3]))
        self.refused(TooMany, ("span", 12), alike_rows, Row([2, 2, 2, 1]))
        self.refused(TooMany, ("span", 12), alike_rows, Row([LONG, 1]))
        for value in NO_ROWS:
            self.refused(BadRow, ("row",), alike_rows, value)

    def test_the_one_mark_times_a_number(self):
        for many, times in ((2, 3), (3, 3), (4, 2), (4, 3)):
            wanted = []
            for g in range(1, times + 1):
                if times % g == 0:
                    wanted += [
                        tuple(number * g for number in bridge.numbers)
                        for bridge in small_bridges(many, times // g) if bridge.by == times // g
                    ]
            found = alike_rows(Row.one_mark(many).times(times))
            self.assertEqual([row.numbers for row in found], sorted(wanted))


class TestFacts(Case):
    def alike_pairs(self):
        for many in (4, 6, 8):
            lots = all_lots(many)
            for one in lots[::5]:
                for other in lots[::3]:
                    if cross(one.numbers, one.numbers) == cross(other.numbers, other.numbers):
                        yield one, other
        yield Row.of(12, [0, 1, 4, 6]), Row.of(12, [0, 1, 3, 7])
        yield Row([2, 0, 0, 0]), Row([1, 1, -1, 1])

    def test_a_bridge_leads_just_to_what_is_alike(self):
        for many in (2, 3, 4):
            bridges = list(small_bridges(many, 3))
            for row in all_rows(many, (0, 1, 2)):
                for bridge in bridges:
                    other = led(row, bridge)
                    if other is not None:
                        self.assertEqual(spans(row), spans(other))
                        if not silent_divisors(row):
                            self.assertTrue(alike(row, other) == bridge)

    def test_bridges_one_behind_the_other(self):
        for one, other in self.alike_pairs():
            there = alike(one, other)
            self.assertTrue(alike(one, one) == Bridge(Row.one_mark(one.many).numbers, 1))
            self.assertTrue(undone_bridge(there) == alike(other, one))
            third = other.mirrored().turned(1)
            self.assertTrue(joined_bridges(there, alike(other, third)) == alike(one, third))

    def test_sums(self):
        for one, other in self.alike_pairs():
            bridge = alike(one, other)
            self.assertIn(sum(bridge.numbers), (bridge.by, -bridge.by))
            if bridge.by == 1:
                self.assertEqual(sorted(abs(number) for number in bridge.numbers), [0] * (one.many - 1) + [1])

    def test_left_out_and_stretched(self):
        for one, other in self.alike_pairs():
            bridge = alike(one, other)
            if one.is_lot and other.is_lot and 0 < one.total < one.many:
                self.assertTrue(alike(one.left_out(), other.left_out()) == bridge)
            for by in units(one.many):
                stretched = Bridge(Row(bridge.numbers).stretched(by).numbers, bridge.by)
                self.assertTrue(alike(one.stretched(by), other.stretched(by)) == stretched)

    def test_flips(self):
        for row in some_rows()[::7]:
            for count in (1, 2):
                for chosen in itertools.combinations(divisors(row.many), count):
                    kept = led(row, flip_bridge(row.many, chosen)) == row
                    self.assertEqual(kept, set(chosen) <= set(silent_divisors(row)))

    def test_halves(self):
        for many in (2, 4, 6, 8):
            half = math.gcd(many // 2, 1 - many // 2)
            numbers = [1 - many // 2] + [1] * (many - 1)
            self.assertEqual(half, 1)
            for lot in all_lots(many):
                if 2 * lot.total == many:
                    self.assertTrue(led(lot, Bridge(numbers, many // 2)) == lot.left_out())

    def test_products_with_mirrored(self):
        for one in some_rows()[::3]:
            other = Row([3, -1] + [2] * (one.many - 2))
            here, there = product_pair(one=one, other=other)
            self.just(here.numbers, product(one.numbers, other.numbers))
            self.just(there.numbers, product(one.numbers, other.mirrored().numbers))
            self.assertEqual(spans(here), spans(there))
