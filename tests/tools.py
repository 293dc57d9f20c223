"""What the tests share: refusals, wrong values, and plain reckonings of their own."""

import itertools
import math
import unittest

from spanalike.errors import BadLine, BadText, BeatError, Impossible, Missing, TooMany, Twice
from spanalike.rows import Row

NO_INTEGERS = (True, False, None, "1", "", 1.0, 2.5, [1], (1,), {}, {1: 1}, b"1", object())
NO_LISTS = (True, None, 5, "12", "", {1: 2}, {1, 2}, b"12", range(3), object())
NO_ROWS = (None, True, 5, "1 0", [1, 0], (1, 0), {}, object())
NO_LOTS = NO_ROWS + (Row([0, 2, 1]), Row([-1, 0]))
NO_MARKED = NO_LOTS + (Row([0, 0]), Row([0] * 24))
NO_TEXTS = (None, True, 5, ["1", "0"], (), b"1 0", object())
LONG = 10 ** 3999 + 9


def fields_of(error):
    """The names of the fields of an error."""
    if isinstance(error, (Missing, Twice)):
        return ("value",)
    for kind, names in ((TooMany, ("what", "most")), (Impossible, ("paper",)),
                        (BadText, ("line", "item")), (BadLine, ("line", "error"))):
        if isinstance(error, kind):
            return names
    return ("part",)


class Case(unittest.TestCase):
    """A test case that knows the errors of the package."""

    def refused(self, error, fields, function, *args, **named):
        """The call raises just this error with these fields."""
        with self.assertRaises(BeatError) as caught:
            function(*args, **named)
        raised = caught.exception
        self.assertIs(type(raised), error, (function, args, raised))
        told = [getattr(raised, name) for name in fields_of(raised)]
        self.assertEqual(len(told), len(fields))
        for one, other in zip(told, fields):
            self.assertIs(type(one), type(other), (args, told, fields))
            self.assertTrue(one is other or one == other, (args, told, fields))

    def just(self, value, wanted):
        """The value is equal to the wanted one, and of the same kinds all the way in."""
        self.assertEqual(value, wanted)
        self.same_kinds(value, wanted)

    def same_kinds(self, value, wanted):
        self.assertIs(type(value), type(wanted), (value, wanted))
        if isinstance(wanted, (list, tuple)):
            for one, other in zip(value, wanted):
                self.same_kinds(one, other)


def all_marks(many):
    """All ascending tuples of marks of lots of a ring."""
    return [marks for size in range(many + 1) for marks in itertools.combinations(range(many), size)]


def all_lots(many):
    """All lots of a ring."""
    return [Row.of(many, marks) for marks in all_marks(many)]


def all_rows(many, numbers):
    """All rows of a ring with some of these numbers."""
    return [Row(row) for row in itertools.product(numbers, repeat=many)]


def some_rows():
    """Rows of small rings: all with few numbers, all small lots, some others."""
    rows = all_rows(2, (-2, -1, 0, 1, 3)) + all_rows(3, (-1, 0, 2)) + all_rows(4, (-1, 0, 1))
    for many in (5, 6):
        rows += all_lots(many)
    rows += [Row([5, -3, 0, 0, 2, 7]), Row([1, 2, 3, 4, 5, 6, 7]), Row([0, 9, -4, 1, 1, 0, 0, 2])]
    return rows + [Row([3] * 8), Row.of(12, [0, 1, 4, 6]), Row([2, -1] * 6), Row([0] * 24)]


def units(many):
    return [by for by in range(1, many) if math.gcd(by, many) == 1]


def turned(numbers, by):
    many = len(numbers)
    found = [None] * many
    for beat in range(many):
        found[(beat + by) % many] = numbers[beat]
    return tuple(found)


def stretched(numbers, by):
    many = len(numbers)
    found = [None] * many
    for beat in range(many):
        found[beat * by % many] = numbers[beat]
    return tuple(found)


def product(one, other):
    many = len(one)
    found = [0] * many
    for i in range(many):
        for j in range(many):
            found[(i + j) % many] += one[i] * other[j]
    return tuple(found)


def cross(one, other):
    many = len(one)
    return tuple(sum(one[i] * other[(i + d) % many] for i in range(many)) for d in range(many))


def counts_of(many, marks):
    """How many pairs of marks are so far apart, for each distance."""
    found = [0] * (many // 2)
    for one, other in itertools.combinations(marks, 2):
        found[min(abs(one - other), many - abs(one - other)) - 1] += 1
    return tuple(found)


def rank(numbers):
    """What rows are compared by: of lots the marks, of others the numbers."""
    if all(number in (0, 1) for number in numbers):
        return tuple(beat for beat, number in enumerate(numbers) if number == 1)
    return tuple(numbers)


def divisors(many):
    return [divisor for divisor in range(1, many + 1) if many % divisor == 0]


def mu(number):
    if number == 1:
        return 1
    primes = [p for p in range(2, number + 1) if number % p == 0 and all(p % q for q in range(2, p))]
    if any(number % (p * p) == 0 for p in primes):
        return 0
    return (-1) ** len(primes)


def share_numbers(many, divisor):
    return tuple(
        sum(mu(divisor // g) * g for g in range(1, divisor + 1) if divisor % g == 0 and beat % g == 0)
        for beat in range(many)
    )


def is_silent(numbers, divisor):
    return not any(product(numbers, share_numbers(len(numbers), divisor)))


def is_square(number):
    return number >= 0 and math.isqrt(number) ** 2 == number
