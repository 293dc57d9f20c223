"""Lots on a line, told by their distances."""

from math import isqrt

from spanalike.basics import need_integer
from spanalike.checks import is_listed, is_within
from spanalike.errors import BadNumber, BadStrip, TooMany
from spanalike.papers import Denial
from spanalike.span_bars import is_square
from spanalike.strips import Strip, need_strip, strip_distances


class StripBar(Denial):
    """No lot on a line has the distances: their sum, or another number, cannot be."""

    def __init__(self, kind, number):
        Denial.__init__(self, "stripbar", kind, number)
        self.kind = self.parts[0]
        self.number = self.parts[1]


def need_at_most_long(length, most):
    """Raises TooMany for a length above the most."""
    if length > most:
        raise TooMany("length", most)


def need_distances(told):
    """Raises what is wrong with distances that are told for a lot on a line."""
    if not is_listed(told) or not all([is_within(count, 0, None) for count in told]):
        raise BadNumber("distances")
    if len(told) > 0 and told[-1] != 1:
        raise BadNumber("distances")
    need_at_most_long(len(told), 16)


def size_of_pairs(pairs):
    """The number of marks, from 1 on, that have so many pairs, None if there is none."""
    size = (1 + isqrt(8 * pairs + 1)) // 2
    return size if size * (size - 1) // 2 == pairs else None


def distances_over(marks, beat, told):
    """The distances told, less those from the marks to a beat, None if one falls below 0."""
    left = list(told)
    for mark in marks:
        index = abs(beat - mark) - 1
        if left[index] == 0:
            return None
        left[index] -= 1
    return left


def add_inner(length, more, marks, told, found):
    """Puts into found the marks of all lots of this length with so many marks more.

    The last two marks so far are the last inner one, or 0, and the length; told are the distances
    that the further marks must have.
    """
    if more == 0:
        found.append(marks)
        return
    for beat in range(marks[-2] + 1, length - more + 1):
        left = distances_over(marks, beat, told)
        if left is not None:
            add_inner(length, more - 1, marks[:-1] + (beat, length), left, found)


def marks_told(told):
    """The ascending list of the marks of all lots on a line with these distances."""
    length = len(told)
    size = size_of_pairs(sum(told))
    if size is None:
        return []
    if length == 0:
        return [(0,)]
    found = []
    add_inner(length, size - 2, (0, length), list(told[:-1]) + [0], found)
    return found


def backward_marks(marks):
    """The marks of a lot on a line, reversed."""
    return tuple([marks[-1] - mark for mark in marks[::-1]])


def leasts_told(told):
    """The ascending tuple of the lots with these distances that are the least of the two."""
    return tuple([Strip.of(marks) for marks in marks_told(told) if marks <= backward_marks(marks)])


def told_strips(distances):
    """The ascending tuple of the least of all lots on a line with these distances."""
    need_distances(distances)
    return leasts_told(distances)


def strip_bar(distances):
    """None, or the first bar of distances that are told for a lot on a line."""
    need_distances(distances)
    pairs = sum(distances)
    size = size_of_pairs(pairs)
    if size is None:
        return StripBar("pairs", pairs)
    number = size + 2 * sum(distances[1::2]) - 2 * sum(distances[::2])
    if not is_square(number):
        return StripBar("square", number)
    return None


def alike_strip_lots(lot):
    """The ascending tuple of the least of all lots that are alike with a lot on a line."""
    need_strip(lot, "lot")
    if not lot.is_lot:
        raise BadStrip("lot")
    need_at_most_long(lot.length, 16)
    return leasts_told(strip_distances(lot))


def marks_of_length(length):
    """The list of the marks of all lots on a line of this length."""
    if length == 0:
        return [(0,)]
    return [
        (0,) + tuple([beat for beat in range(1, length) if (signs >> beat) & 1 == 1]) + (length,)
        for signs in range(0, 1 << length, 2)
    ]


def strip_families(length):
    """The ascending tuple of all tuples of two or more lots of this length that are alike."""
    need_integer(length, "length", 0, None)
    need_at_most_long(length, 12)
    leasts = sorted([marks for marks in marks_of_length(length) if marks <= backward_marks(marks)])
    by_distances = {}
    for marks in leasts:
        lot = Strip.of(marks)
        by_distances.setdefault(strip_distances(lot), []).append(lot)
    # each list begins with its least lot, and the first ones ascend
    return tuple([tuple(lots) for lots in by_distances.values() if len(lots) > 1])
