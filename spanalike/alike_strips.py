"""Alike strips: what leads from the one to the other, and all that are alike with one."""

from math import isqrt

from spanalike.checks import divisors_of
from spanalike.errors import TooMany
from spanalike.factors import common_factor, taken_off
from spanalike.papers import Denial, Paper
from spanalike.strips import Strip, need_strip, strip_spans


class Factors(Paper):
    """One strip is common by rest, the other one common by rest reversed, times sign."""

    def __init__(self, common, rest, sign):
        Paper.__init__(self, "factors", common, rest, sign)
        self.common = self.parts[0]
        self.rest = self.parts[1]
        self.sign = self.parts[2]


class UnlikeDistance(Denial):
    """A distance, from 0 on, at which the spans of two strips differ."""

    def __init__(self, distance):
        Denial.__init__(self, "unlikedistance", distance)
        self.distance = self.parts[0]


def strip_span(strip, distance):
    """The span of a strip at a distance, 0 beyond its length."""
    return strip_spans(strip)[distance] if distance <= strip.length else 0


def first_unlike(one, other):
    """The least distance at which the spans of two strips differ, None if there is none."""
    longest = max(one.length, other.length)
    here = strip_spans(one) + (0,) * (longest - one.length)
    there = strip_spans(other) + (0,) * (longest - other.length)
    for distance, span in enumerate(here):
        if span != there[distance]:
            return distance
    return None


def alike_strips(one, other):
    """The factors, with the common factor, of two alike strips, or a distance that denies it."""
    need_strip(one, "one")
    need_strip(other, "other")
    distance = first_unlike(one, other)
    if distance is not None:
        return UnlikeDistance(distance)
    common = common_factor(one, other)
    rest = taken_off(one, common)
    sign = 1 if common.product(rest.backward()) == other else -1
    return Factors(common, rest, sign)


def squares_of(numbers):
    """The sum of the squares of some numbers."""
    return sum([number * number for number in numbers])


def next_pairs(told, ahead, behind):
    """The pairs of a number behind those ahead and one ahead of those behind.

    They complete the span at one distance: told are all spans; a pair for each number that the
    span at 0 leaves room for.
    """
    place = len(ahead)
    known = sum([ahead[at] * behind[at - 1] for at in range(1, place)])
    wanted = told[len(told) - 1 - place] - known
    left = told[0] - squares_of(ahead) - squares_of(behind)
    pairs = []
    for number in range(-isqrt(left), isqrt(left) + 1):
        rest = wanted - number * behind[-1]
        if rest % ahead[0] == 0:
            other = rest // ahead[0]
            if number * number + other * other <= left:
                pairs.append((number, other))
    return pairs


def add_alike(told, ahead, behind, found):
    """Puts into found the numbers of all strips with the spans told that so begin and end."""
    more = len(told) - len(ahead) - len(behind)
    if more == 0:
        strip = Strip(ahead + behind)
        if strip_spans(strip) == told:
            found.append(strip.numbers)
    elif more == 1:
        most = isqrt(told[0] - squares_of(ahead) - squares_of(behind))
        for number in range(-most, most + 1):
            add_alike(told, ahead + (number,), behind, found)
    else:
        for number, other in next_pairs(told, ahead, behind):
            add_alike(told, ahead + (number,), (other,) + behind, found)


def numbers_alike(told):
    """The ascending list of the numbers of all strips with these spans whose last number is above 0."""
    if len(told) == 1:
        return [(isqrt(told[0]),)]
    found = []
    for last in divisors_of(abs(told[-1])):
        first = told[-1] // last
        if first * first + last * last <= told[0]:
            add_alike(told, (first,), (last,), found)
    return sorted(found)


def all_alike(strip):
    """The ascending tuple of all strips alike with one whose last number is above 0."""
    need_strip(strip, "strip")
    if strip.length > 8:
        raise TooMany("length", 8)
    told = strip_spans(strip)
    if told[0] > 100:
        raise TooMany("square", 100)
    return tuple([Strip(numbers) for numbers in numbers_alike(told)])
