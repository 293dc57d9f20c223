"""Factors of strips."""

from math import gcd

from spanalike.errors import BadStrip
from spanalike.strips import Strip, need_strip


def content_of(numbers):
    """The greatest integer that divides all of the numbers."""
    found = 0
    for number in numbers:
        found = gcd(found, number)
    return found


def plain_numbers(numbers):
    """The numbers of the plain strip that makes these with an integer, and some empty beats.

    It is the empty list if all of them are 0.
    """
    places = [place for place, number in enumerate(numbers) if number != 0]
    if not places:
        return []
    inner = numbers[places[0]:places[-1] + 1]
    divisor = content_of(inner)
    if inner[-1] < 0:
        divisor = -divisor
    return [number // divisor for number in inner]


def last_taken_off(numbers, by):
    """The numbers of a strip times an integer, less those of one not longer, so that the last is 0."""
    divisor = gcd(numbers[-1], by[-1])
    times, its = by[-1] // divisor, numbers[-1] // divisor
    left = [number * times for number in numbers]
    ahead = len(numbers) - len(by)
    for place, number in enumerate(by):
        left[ahead + place] -= number * its
    return left


def common_numbers(one, other):
    """The numbers of the common factor of two strips, told by their numbers."""
    longer, shorter = plain_numbers(one), plain_numbers(other)
    # neither has a factor of empty beats, so these may be left away on the way
    while shorter:
        if len(longer) < len(shorter):
            longer, shorter = shorter, longer
        longer, shorter = shorter, plain_numbers(last_taken_off(longer, shorter))
    return longer


def rest_of(numbers, factor):
    """The numbers of the rest if these are those of a factor, otherwise None."""
    left = list(numbers)
    rest = []
    for place in range(len(numbers) - len(factor) + 1):
        if left[place] % factor[0] != 0:
            return None
        number = left[place] // factor[0]
        rest.append(number)
        for behind, its in enumerate(factor):
            left[place + behind] -= number * its
    return None if any(left) else rest


def common_factor(one, other):
    """The longest plain strip that is a factor of both."""
    need_strip(one, "one")
    need_strip(other, "other")
    return Strip(common_numbers(one.numbers, other.numbers))


def taken_off(strip, factor):
    """The rest of a strip, None if the other one is no factor of it."""
    need_strip(strip, "strip")
    need_strip(factor, "factor")
    rest = rest_of(strip.numbers, factor.numbers)
    return None if rest is None else Strip(rest)


def is_plain(strip):
    """Whether a strip is plain."""
    need_strip(strip, "strip")
    return strip.numbers[-1] > 0 and content_of(strip.numbers) == 1


def reads_same(strip):
    """Whether a strip, reversed, is itself, or itself times -1."""
    need_strip(strip, "strip")
    backward = strip.backward()
    return backward == strip or backward == strip.times(-1)


def factor_reversed(strip, factor):
    """The strip with this factor of it reversed."""
    rest = taken_off(strip, factor)
    if rest is None:
        raise BadStrip("factor")
    return rest.product(factor.backward())
