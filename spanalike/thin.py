"""Thin lots: each distance comes once at most."""

from spanalike.basics import need_at_most, need_integer
from spanalike.papers import Paper
from spanalike.rows import Row
from spanalike.span_bars import counts_left
from spanalike.spans import distances


class MostThin(Paper):
    """A thin lot with most marks, and the reason that none has more."""

    def __init__(self, lot, reason):
        Paper.__init__(self, "mostthin", lot, reason)
        self.lot = self.parts[0]
        self.reason = self.parts[1]


def twice_come(lot):
    """The ascending tuple of the distances that come twice or more often."""
    return tuple([index + 1 for index, count in enumerate(distances(lot)) if count > 1])


def is_thin(lot):
    """Whether each distance comes once at most in a lot."""
    return twice_come(lot) == ()


def bound_of(many):
    """How many marks a thin lot has at most, by counting pairs.

    Twice the pairs are an even number, so on an odd number of beats not many of them either.
    """
    size = 1
    while (size + 1) * size <= many:
        size += 1
    return size


def thin_marks(many, more, marks, left):
    """The marks of the least thin lot with so many marks more, None if there is none.

    It begins with the marks; left are the counts that its further distances may have.
    """
    if more == 0:
        return marks
    for beat in range(marks[-1] + 1, many):
        less = counts_left(many, marks, beat, left)
        if less is not None:
            found = thin_marks(many, more - 1, marks + (beat,), less)
            if found is not None:
                return found
    return None


def need_ring(many):
    """Raises what is wrong with a ring of 24 beats at most."""
    need_integer(many, "many", 2, None)
    need_at_most(many, 24)


def most_thin(many):
    """The least of the thin lots with most marks, and why none has more."""
    need_ring(many)
    bound = bound_of(many)
    size = bound
    marks = None
    while marks is None:
        marks = thin_marks(many, size - 1, (0,), [1] * (many // 2))
        size -= 1
    return MostThin(Row.of(many, marks), "count" if len(marks) == bound else "listed")
