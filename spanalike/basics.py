"""What several parts of the package need: bounds of arguments, texts, common divisors, choices."""

from itertools import combinations
from math import gcd

from spanalike.checks import DIGITS, is_within
from spanalike.errors import BadNumber, BadText, NoDivisor, TooMany


def need_integer(value, part, least, most):
    """Raises BadNumber for what is no integer from least to most; None is no bound."""
    if not is_within(value, least, most):
        raise BadNumber(part)


def need_many(many):
    """Raises BadNumber for what is no number of beats of a ring."""
    need_integer(many, "many", 2, 24)


def need_size(many, size):
    """Raises BadNumber for what is no ring, or no size of a lot of it."""
    need_many(many)
    need_integer(size, "size", 0, many)


def need_at_most(many, most):
    """Raises TooMany for a ring of more beats than most."""
    if many > most:
        raise TooMany("beats", most)


def is_divisor(many, value):
    """Whether any value is a divisor of a ring."""
    return is_within(value, 1, many) and many % value == 0


def need_divisor(many, value):
    """Raises NoDivisor for what is no divisor of the ring."""
    if not is_divisor(many, value):
        raise NoDivisor(value)


def reduced(numbers, by):
    """The pair of the numbers, as a tuple, and by, without what divides all of them."""
    divisor = by
    for number in numbers:
        divisor = gcd(divisor, number)
    return tuple([number // divisor for number in numbers]), by // divisor


def choices_below(many, count):
    """The list of all tuples of so many numbers below many, ascending."""
    return list(combinations(range(many), count))


def written(number):
    """The digits of an integer, also of one that is too long for Python's own str."""
    rest = abs(number)
    pieces = []
    while rest >= 10 ** 60:
        pieces.append(str(rest % 10 ** 60).zfill(60))
        rest = rest // 10 ** 60
    pieces.append(str(rest))
    sign = "-" if number < 0 else ""
    return sign + "".join(pieces[::-1])


def integer_of(item):
    """The integer that an item of a text tells, None if it tells none."""
    digits = item[1:] if item.startswith("-") else item
    if not 1 <= len(digits) <= 60 or not all([sign in DIGITS for sign in digits]):
        return None
    if digits[0] == "0" and item != "0":
        return None
    return int(item)


def leading_integers(text, most):
    """The integers, at most so many, with which a text begins, and the first item behind them.

    This item is told by its index; it is None if there is no item more.
    """
    if not isinstance(text, str):
        raise BadText(0, 0)
    numbers = []
    for index, item in enumerate(text.split(" ")):
        number = integer_of(item)
        if number is None or index == most:
            return numbers, index
        numbers.append(number)
    return numbers, None


def need_item(items, index):
    """Raises BadText if a text has no item there."""
    if index >= len(items):
        raise BadText(0, index)


def integer_at(items, index, least, most):
    """The integer that an item of a text tells; BadText for none from least to most."""
    need_item(items, index)
    number = integer_of(items[index])
    if not is_within(number, least, most):
        raise BadText(0, index)
    return number
