"""Factors of strips, alike strips, whether papers on them are right, and the facts of point 9 on them."""

import itertools
import math
from fractions import Fraction
from unittest.mock import ANY

from spanalike.alike_strips import Factors, UnlikeDistance, alike_strips, all_alike
from spanalike.check_strips import shows_alike_strips
from spanalike.errors import BadStrip, TooMany
from spanalike.factors import common_factor, factor_reversed, is_plain, reads_same, taken_off
from spanalike.papers import Denial, Paper
from spanalike.rows import Row
from spanalike.strips import Strip, strip_spans
from tests.test_strips import NO_STRIPS, line_product, line_spans, some_strips
from tests.tools import Case

LONG = 10 ** 3999 + 9
ONE, OTHER = Strip.of([0, 1, 2, 6, 8, 11]), Strip.of([31, 26, 27, 29, 20, 21])


def trimmed(numbers):
    numbers = list(numbers)
    while numbers and numbers[-1] == 0:
        numbers.pop()
    return numbers


def remainder(one, other):
    """What division with fractions leaves of polynomials."""
    left = [Fraction(number) for number in one]
    while len(left) >= len(other):
        times = left[-1] / other[-1]
        for place, number in enumerate(other):
            left[len(left) - len(other) + place] -= times * number
        left = trimmed(left)
    return left


def plain_common(one, other):
    """The numbers of the common factor, by Euclid's steps with fractions."""
    one, other = list(one), list(other)
    while other:
        one, other = other, remainder(one, other)
    bottom = math.lcm(*[Fraction(number).denominator for number in one])
    numbers = [int(number * bottom) for number in one]
    divisor = math.gcd(*numbers) * (1 if numbers[-1] > 0 else -1)
    return tuple(number // divisor for number in numbers)


def strips_within(length, most):
    """All tuples of integers of this length, none beyond most or -most, the last one above 0."""
    for numbers in itertools.product(range(-most, most + 1), repeat=length + 1):
        if numbers[0] != 0 and numbers[-1] > 0:
            yield numbers


class TestFactors(Case):
    def test_common_factors(self):
        strips = some_strips((-2, -1, 0, 1, 3), 2)
        for one, other in itertools.product(strips[::3], strips[::2]):
            self.just(common_factor(one=one, other=other).numbers, plain_common(one.numbers, other.numbers))
        factors = [Strip([1, 1]), Strip([2, 0, 3]), Strip([1, -4, 1]), Strip([-5]), Strip([1, 0, 0, -1]), Strip([7, 6])]
        for one, other, common in itertools.product(factors, repeat=3):
            here, there = one.product(common), other.product(common)
            self.just(common_factor(here, there).numbers, plain_common(here.numbers, there.numbers))

    def test_common_factors_of_long_strips(self):
        common = Strip([999983, -1, 0, 999999, 4, 1] + [123456] * 10 + [5])
        one, other = Strip(list(range(1, 25))), Strip([7, -999999] + [3] * 22)
        self.just(common_factor(one.product(common), other.product(common)).numbers, common.numbers)
        self.just(common_factor(Strip([999999] * 41), Strip([-2] * 41)).numbers, (1,) * 41)
        self.just(common_factor(Strip([999999] * 40 + [1]), Strip([-2] * 41)).numbers, (1,))

    def test_common_factors_of_numbers_alone(self):
        for one, other in ((6, 4), (-6, 6), (1, 1), (-1, -1)):
            self.just(common_factor(Strip([one]), Strip([other])).numbers, (1,))
        self.just(common_factor(Strip([6]), Strip([2, 4])).numbers, (1,))

    def test_taken_off(self):
        strips = some_strips((-1, 0, 2), 2)
        for one, other in itertools.product(strips, repeat=2):
            whole = Strip(line_product(one.numbers, other.numbers))
            self.just(taken_off(strip=whole, factor=one).numbers, other.numbers)
        self.assertIs(taken_off(Strip([1, 2]), Strip([2])), None)
        self.assertIs(taken_off(Strip([1, 2]), Strip([1, 2, 1])), None)
        self.assertIs(taken_off(Strip([1, 2, 1]), Strip([1, 2])), None)
        self.assertIs(taken_off(Strip([1, 0, 1]), Strip([2, 2])), None)
        self.assertIs(taken_off(Strip([2, 1]), Strip([2])), None)
        self.just(taken_off(Strip([2, 4]), Strip([-2])).numbers, (-1, -2))
        self.just(taken_off(Strip([LONG * 2, 3 * LONG]), Strip([2, 3])).numbers, (LONG,))

    def test_just_factors_are_taken_off(self):
        wholes = some_strips((-2, -1, 0, 1, 2), 3)[::7]
        parts = [numbers for length in range(3) for numbers in strips_within(length, 2)]
        for whole in wholes:
            for part in parts:
                rest = taken_off(whole, Strip(part))
                if rest is None:
                    left = remainder(whole.numbers, part)
                    many = len(whole.numbers) - len(part) + 1
                    # either something is left, or the rest would have fractions
                    self.assertTrue(left or not all(
                        number.denominator == 1 for number in self.quotient(whole.numbers, part, many)))
                else:
                    self.assertEqual(line_product(part, rest.numbers), whole.numbers)

    def quotient(self, one, other, many):
        left, rest = [Fraction(number) for number in one], []
        for place in range(many):
            rest.append(left[place] / other[0])
            for behind, number in enumerate(other):
                left[place + behind] -= rest[-1] * number
        return rest

    def test_plain_and_same(self):
        for strip in some_strips((-2, -1, 0, 1, 2), 2) + some_strips((-3, 0, 3), 3):
            numbers = strip.numbers
            self.assertIs(is_plain(strip=strip), numbers[-1] > 0 and math.gcd(*numbers) == 1)
            backward = numbers[::-1]
            self.assertIs(reads_same(strip=strip), backward in (numbers, tuple(-number for number in numbers)))
        self.just([is_plain(Strip([1])), is_plain(Strip([-1])), is_plain(Strip([2]))], [True, False, False])
        self.just([reads_same(Strip([5])), reads_same(Strip([1, -1])), reads_same(Strip([1, -2]))], [True, True, False])

    def test_factor_reversed(self):
        strips = some_strips((-1, 0, 2), 2)
        for one, other in itertools.product(strips[::2], strips):
            whole = one.product(other)
            self.just(factor_reversed(strip=whole, factor=one).numbers,
                      line_product(one.numbers[::-1], other.numbers))
        self.refused(BadStrip, ("factor",), factor_reversed, Strip([1, 2]), Strip([1, 1]))
        self.refused(BadStrip, ("factor",), factor_reversed, Strip([1, 2]), Strip([2]))
        self.refused(BadStrip, ("factor",), factor_reversed, Strip([1, 2]), Strip([1, 2, 1]))

    def test_refused(self):
        for value in NO_STRIPS:
            for function in (is_plain, reads_same):
                self.refused(BadStrip, ("strip",), function, value)
            for function in (taken_off, factor_reversed):
                self.refused(BadStrip, ("strip",), function, value, value)
                self.refused(BadStrip, ("factor",), function, ONE, value)
            self.refused(BadStrip, ("one",), common_factor, value, value)
            self.refused(BadStrip, ("other",), common_factor, ONE, value)


class TestAlike(Case):
    def test_alike_strips(self):
        strips = some_strips((-1, 0, 1, 2), 3)
        for one, other in itertools.product(strips[::3], strips[::2]):
            here, there = line_spans(one.numbers) + (0,) * 9, line_spans(other.numbers) + (0,) * 9
            unlike = [distance for distance in range(9) if here[distance] != there[distance]]
            found = alike_strips(one=one, other=other)
            if unlike:
                self.assertIs(type(found), UnlikeDistance)
                self.just(found.distance, unlike[0])
            else:
                self.assertIs(type(found), Factors)
                self.just(found.common.numbers, plain_common(one.numbers, other.numbers))
                self.just(line_product(found.common.numbers, found.rest.numbers), one.numbers)
                wanted = line_product(found.common.numbers, found.rest.numbers[::-1])
                self.just(tuple(found.sign * number for number in wanted), other.numbers)
            self.assertTrue(shows_alike_strips(one, other, found))

    def test_lengths_that_differ(self):
        self.just(alike_strips(Strip([1]), Strip([1, 0, 0, 1])).distance, 0)
        self.just(alike_strips(Strip([1, 1]), Strip([1, 0, 1])).distance, 1)
        one, other = Strip([1, 1, 0, 0, 1, 1]), Strip([2])
        self.just(alike_strips(one, other).distance, 1)
        self.just(alike_strips(other, one).distance, 1)
        self.just(alike_strips(Strip([3]), Strip([1, 2, 2, 0, 0, -1])).distance, 0 if 9 != 10 else 1)
        self.just(alike_strips(Strip([3]), Strip([2, 1, -2])).distance, 2)

    def test_signs(self):
        self.just(alike_strips(Strip([1, -1]), Strip([-1, 1])).sign, -1)
        self.just(alike_strips(Strip([1]), Strip([-1])).sign, -1)
        self.just([str(strip) for strip in alike_strips(Strip([1]), Strip([-1])).parts[:2]], ["1", "1"])
        for one in some_strips((0, 1), 4):
            self.just(alike_strips(one, one.backward()).sign, 1)
            self.just(alike_strips(one, one.backward().times(-1)).sign, -1)

    def test_long_strips(self):
        one, other = Strip([1, -999999, 3] + [7] * 18), Strip([999983] + [2, -5] * 10)
        found = alike_strips(one.product(other), one.backward().product(other))
        self.assertTrue(shows_alike_strips(one.product(other), one.backward().product(other), found))

    def test_refused(self):
        for value in NO_STRIPS:
            self.refused(BadStrip, ("one",), alike_strips, value, value)
            self.refused(BadStrip, ("other",), alike_strips, ONE, value)
            for paper in (None, UnlikeDistance(0), value):
                self.refused(BadStrip, ("one",), shows_alike_strips, value, value, paper)
                self.refused(BadStrip, ("other",), shows_alike_strips, ONE, value, paper)


class TestShown(Case):
    def test_any_strips_and_signs(self):
        parts = some_strips((-1, 1, 2), 1)
        for common, rest, sign in itertools.product(parts, parts, (1, -1)):
            one, other = common.product(rest), common.product(rest.backward()).times(sign)
            self.assertIs(shows_alike_strips(one, other, Factors(common, rest, sign)), True)
            for there in (other.times(-1), other.times(2), common.product(rest.backward()).product(Strip([1, 1]))):
                self.assertIs(shows_alike_strips(one, there, Factors(common, rest, sign)), False)
            for times in (2, -2, 0):
                there = other.times(times or 1)
                self.assertIs(shows_alike_strips(one, there, Factors(common, rest, times)), False)
            for here in (one.times(-1), one.product(Strip([1, 1]))):
                self.assertIs(shows_alike_strips(here, other, Factors(common, rest, sign)), False)

    def test_any_distance(self):
        one, other = Strip([1, 1, 0, 1]), Strip([1, 1, 1])
        for distance in range(-5, 9):
            wanted = distance in (1, 3)
            self.assertIs(shows_alike_strips(one, other, UnlikeDistance(distance)), wanted)
            self.assertIs(shows_alike_strips(one, one, UnlikeDistance(distance)), False)
            wanted = distance in (0, 1, 2)
            self.assertIs(shows_alike_strips(Strip([1, 1, 2]), Strip([2, 2, 2]), UnlikeDistance(distance)), wanted)
        self.assertIs(shows_alike_strips(one, other, UnlikeDistance(LONG)), False)

    def test_bent_papers(self):
        two = Strip([1, 1])
        whole = Strip([1, 2, 1])
        self.assertIs(shows_alike_strips(whole, whole, Factors(two, two, 1)), True)
        for value in (
            Factors(two, two, -1), Factors(two, two, True), Factors(two, two, 1.0), Factors(two, two, 2),
            Factors(two, two, "1"), Factors(two, two, None), Factors((1, 1), two, 1), Factors(two, [1, 1], 1),
            Factors(Row([1, 1]), two, 1), Factors(None, None, 1), Factors(whole, two, 1), Factors(two, Strip([1]), 1),
            Factors(ANY, two, 1), Factors(two, ANY, 1), Factors(two, two, ANY), ANY, None, True, 1, "factors",
            Paper("factors", two, two, 1), (two, two, 1), UnlikeDistance(0), UnlikeDistance(None), UnlikeDistance(True),
            Factors(Strip([1] * 41), Strip([1] * 41), 1),
        ):
            self.assertIs(shows_alike_strips(whole, whole, value), False)
        for value in (UnlikeDistance(True), UnlikeDistance("1"), UnlikeDistance(1.0), UnlikeDistance(ANY),
                      UnlikeDistance([1]), Denial("unlikedistance", 1), 1, False):
            self.assertIs(shows_alike_strips(whole, two, value), False)
        self.assertIs(shows_alike_strips(whole, two, UnlikeDistance(1)), True)

    def test_long_numbers(self):
        common, rest = Strip([LONG, 1, 2]), Strip([3, LONG])
        one, other = common.product(rest), common.product(rest.backward()).times(-1)
        self.assertIs(shows_alike_strips(one, other, Factors(common, rest, -1)), True)
        self.assertIs(shows_alike_strips(one, other, Factors(common, rest, 1)), False)
        self.assertIs(shows_alike_strips(one, Strip([LONG]), UnlikeDistance(0)), True)


class TestAllAlike(Case):
    def test_all(self):
        for length, most in ((0, 9), (1, 3), (2, 2), (3, 2), (4, 1)):
            groups = {}
            bound = {0: 9, 1: 5, 2: 4, 3: 4, 4: 2}[length]
            for numbers in strips_within(length, bound):
                groups.setdefault(line_spans(numbers), []).append(numbers)
            for numbers in strips_within(length, most):
                square = sum(number * number for number in numbers)
                if square < (bound + 1) ** 2:
                    for sign in (1, -1):
                        found = all_alike(strip=Strip(numbers).times(sign))
                        self.assertIsInstance(found, tuple)
                        self.assertEqual([strip.numbers for strip in found], sorted(groups[line_spans(numbers)]))

    def test_bounds(self):
        self.just([strip.numbers for strip in all_alike(Strip([-10]))], [(10,)])
        self.just([strip.numbers for strip in all_alike(Strip([6, 0, 0, 0, 0, 0, 0, 0, 8]))],
                  [(6,) + (0,) * 7 + (8,), (8,) + (0,) * 7 + (6,)])
        self.refused(TooMany, ("length", 8), all_alike, Strip([99] * 10))
        self.refused(TooMany, ("length", 8), all_alike, Strip([1] + [0] * 8 + [1]))
        self.refused(TooMany, ("square", 100), all_alike, Strip([10, 1]))
        self.refused(TooMany, ("square", 100), all_alike, Strip([LONG] * 9))
        for value in NO_STRIPS:
            self.refused(BadStrip, ("strip",), all_alike, value)

    def test_as_many_as_the_factors_tell(self):
        one, other, same, third = Strip([1, 1, 0, 1]), Strip([1, 2]), Strip([1, 1]), Strip([1, 1, -1])
        # each with how often factors that do not read the same stand in it
        for strip, wanted in (
            (one, 2), (one.product(one), 3), (one.product(one.backward()), 3), (one.product(other), 4),
            (one.product(same), 2), (same.product(same), 1), (third.product(third).product(third), 4),
            (other.product(other.backward()), 3), (third.product(third).product(other), 6), (one.times(-2), 2),
            (other.product(Strip([1, -2])), 4), (other.product(Strip([2, -1])).product(third), 8),
        ):
            self.assertEqual(len(all_alike(strip)), wanted, strip.numbers)
        found = {strip.numbers for strip in all_alike(one.product(one))}
        self.assertEqual(found, {one.product(one).numbers, one.product(one.backward()).numbers,
                                 one.backward().product(one.backward()).numbers})


class TestFacts(Case):
    def test_products_of_plain_strips_are_plain(self):
        plain = [strip for strip in some_strips((-2, 0, 1, 3), 2) if is_plain(strip)]
        for one, other in itertools.product(plain[::2], plain):
            self.assertIs(is_plain(one.product(other)), True)

    def test_what_is_a_factor_of_both_is_one_of_the_common_factor(self):
        strips = some_strips((-1, 1, 2), 2)[::3]
        parts = [Strip(numbers) for length in range(3) for numbers in strips_within(length, 2)]
        for one, other in itertools.product(strips, repeat=2):
            one, other = one.product(Strip([1, 1])), other.product(Strip([1, 1]))
            common = common_factor(one, other)
            self.assertTrue(is_plain(common))
            for part in parts:
                if is_plain(part) and taken_off(one, part) is not None and taken_off(other, part) is not None:
                    self.assertIsNot(taken_off(common, part), None)

    def test_alike_just_if_a_factor_is_reversed(self):
        strips = some_strips((-1, 0, 1), 4)
        by_spans = {}
        for strip in strips:
            by_spans.setdefault(strip_spans(strip), []).append(strip)
        for alike in by_spans.values():
            for one, other in itertools.product(alike, repeat=2):
                found = alike_strips(one, other)
                self.assertTrue(found)
                if one.total > 0 and other.total > 0:
                    self.assertEqual(found.sign, 1)
                reversed_part = factor_reversed(one, found.rest)
                self.assertIn(other, (reversed_part, reversed_part.times(-1)))

    def test_factors_reversed_are_alike(self):
        strips = some_strips((-1, 0, 2), 2)
        for one, other in itertools.product(strips, repeat=2):
            whole = one.product(other)
            self.assertTrue(alike_strips(whole, factor_reversed(whole, one)))
            self.assertTrue(alike_strips(whole, whole.times(-1)))
