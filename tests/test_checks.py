"""What values are, and what divides integers."""

from spanalike.checks import (are_integers, common_divisor, divisors_of, first_twice, is_integer, is_listed,
                              is_name, is_within)
from spanalike.errors import BadNumber
from tests.tools import NO_INTEGERS, NO_LISTS, Case


class TestChecks(Case):
    def test_integers(self):
        for value in (0, 1, -1, 5, 10 ** 3999, -(10 ** 3999)):
            self.assertIs(is_integer(value), True)
        for value in NO_INTEGERS:
            self.assertIs(is_integer(value), False)

    def test_bounds(self):
        for least in (None, -3, 0, 2):
            for most in (None, -1, 2, 4):
                for value in range(-6, 7):
                    wanted = (least is None or least <= value) and (most is None or value <= most)
                    self.assertIs(is_within(value, least, most), wanted)
        self.assertIs(is_within(10 ** 3999, 0, None), True)

    def test_what_is_no_integer_is_in_no_bounds(self):
        for value in NO_INTEGERS:
            self.assertIs(is_within(value, None, None), False)
            self.assertIs(is_within(value, 0, 5), False)

    def test_names(self):
        for value in ("a", "z", "a1", "a" * 12, "q0123456789z"):
            self.assertIs(is_name(value), True)
        bad = ["", "1", "1a", "A", "aB", "a b", "a_", "a-", "a" * 13, " a", "a\n", "\u00e4", "a\u00e9", "a\u0661"]
        for value in bad + list(NO_LISTS) + [["a"], ("a",), b"a"]:
            self.assertIs(is_name(value), False, value)

    def test_lists(self):
        for value in ([], (), [1], ("a", [])):
            self.assertIs(is_listed(value), True)
        for value in NO_LISTS:
            self.assertIs(is_listed(value), False)

    def test_lists_of_integers(self):
        for value in ([], (), [1, -2], (0, 10 ** 50)):
            self.assertIs(are_integers(value), True)
        for value in NO_LISTS:
            self.assertIs(are_integers(value), False)
        for value in NO_INTEGERS:
            self.assertIs(are_integers([1, value]), False)
            self.assertIs(are_integers((value, 1)), False)

    def test_first_twice(self):
        self.just(first_twice([]), None)
        self.just(first_twice([1, 2, 3]), None)
        self.just(first_twice([3, 1, 2, 1, 3]), 1)
        self.just(first_twice(("b", "a", "a", "b")), "a")
        self.just(first_twice([0, 5, 0]), 0)
        self.just(first_twice(["", "x", ""]), "")

    def test_common_divisors(self):
        for one in range(-12, 13):
            for other in range(-12, 13):
                wanted = max([d for d in range(1, 13) if one % d == 0 and other % d == 0])
                self.just(common_divisor(one, other), 0 if one == other == 0 else wanted)
        self.just(common_divisor(6 ** 4000, 10 ** 3999), 2 ** 3999)

    def test_common_divisors_refused(self):
        for value in NO_INTEGERS:
            self.refused(BadNumber, ("one",), common_divisor, value, 3)
            self.refused(BadNumber, ("other",), common_divisor, 3, value)
            self.refused(BadNumber, ("one",), common_divisor, value, value)
        self.just(common_divisor(one=4, other=6), 2)

    def test_divisors(self):
        for number in range(1, 200):
            self.just(divisors_of(number), tuple(d for d in range(1, number + 1) if number % d == 0))
        self.assertEqual(len(divisors_of(720720)), 240)
        self.just(divisors_of(number=999983), (1, 999983))
        self.just(divisors_of(998001)[-1], 998001)

    def test_divisors_refused(self):
        for value in NO_INTEGERS + (0, -1, -6):
            self.refused(BadNumber, ("number",), divisors_of, value)
