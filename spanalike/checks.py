"""What values are, and what divides integers."""

from math import gcd, isqrt

from spanalike.errors import BadNumber

LETTERS = "abcdefghijklmnopqrstuvwxyz"
DIGITS = "0123456789"


def is_integer(value):
    """Whether a value is an integer; True and False are none."""
    return isinstance(value, int) and not isinstance(value, bool)


def is_within(value, least, most):
    """Whether a value is an integer from least to most; None is no bound."""
    if not is_integer(value):
        return False
    if least is not None and value < least:
        return False
    return most is None or value <= most


def is_name(value):
    """Whether a value is a name: a small letter, then up to 11 small letters and digits."""
    if not isinstance(value, str) or not 1 <= len(value) <= 12:
        return False
    return value[0] in LETTERS and all([sign in LETTERS or sign in DIGITS for sign in value])


def is_listed(value):
    """Whether a value is a list or a tuple."""
    return isinstance(value, (list, tuple))


def are_integers(value):
    """Whether a value is a list or a tuple of integers."""
    return is_listed(value) and all([is_integer(item) for item in value])


def first_twice(values):
    """The first of some integers or strings that equals one ahead of it, or None."""
    seen = set()
    for value in values:
        if value in seen:
            return value
        seen.add(value)
    return None


def common_divisor(one, other):
    """The greatest integer that divides both, 0 if both are 0."""
    if not is_integer(one):
        raise BadNumber("one")
    if not is_integer(other):
        raise BadNumber("other")
    return gcd(one, other)


def divisors_of(number):
    """The ascending tuple of the integers from 1 on that divide an integer from 1 on."""
    if not is_within(number, 1, None):
        raise BadNumber("number")
    lesser = [divisor for divisor in range(1, isqrt(number) + 1) if number % divisor == 0]
    greater = [number // divisor for divisor in lesser[::-1] if divisor * divisor != number]
    return tuple(lesser + greater)
