"""All flat lots, and all nearly flat lots, of a ring."""

from spanalike.basics import need_at_most, need_integer
from spanalike.classes import least_wide
from spanalike.families import leasts_of_size, marks_of
from spanalike.papers import Denial
from spanalike.rows import Row
from spanalike.span_bars import add_marks, counts_left, is_square
from spanalike.spans import spans


class NoFlat(Denial):
    """There is no flat lot of a size: by count, by a square, or by going through all."""

    def __init__(self, reason):
        Denial.__init__(self, "noflat", reason)
        self.reason = self.parts[0]


def need_lots_of(many, size, most):
    """Raises what is wrong with a ring of so many beats at most, or with a size of lots."""
    need_integer(many, "many", 2, None)
    need_integer(size, "size", 0, many)
    need_at_most(many, most)


def flat_bar(many, size):
    """The first reason, but listing, for which there is no flat lot, None if there is none."""
    if size * (size - 1) % (many - 1) != 0:
        return "count"
    if many % 2 == 0 and not is_square(size - size * (size - 1) // (many - 1)):
        return "square"
    return None


def flat_counts(many, size):
    """The list of the counts of a flat lot that has each distance."""
    number = size * (size - 1) // (many - 1)
    counts = [number] * (many // 2)
    if many % 2 == 0:
        counts[-1] = number // 2
    return counts


def flat_marks(many, size):
    """The ascending list of the marks of all flat lots of a size from 2 on that mark beats 0 and 1.

    Each flat lot with two marks has a turned form among them.
    """
    found = []
    left = counts_left(many, (0,), 1, flat_counts(many, size))
    if left is not None:
        add_marks(many, size, (0, 1), left, found)
    return found


def flat_leasts(many, size):
    """The ascending list of the leasts of all wide classes of flat lots that no bar excludes."""
    if size < 2:
        return [Row.of(many, list(range(size)))]
    if 2 * size > many:
        lots = [least.left_out() for least in flat_leasts(many, many - size)]
    else:
        lots = [Row.of(many, marks) for marks in flat_marks(many, size)]
    leasts = {}
    for lot in lots:
        least = least_wide(lot)
        leasts[least.marks] = least
    return sorted(list(leasts.values()), key=marks_of)


def flat_lots(many, size):
    """The ascending tuple of the leasts of all wide classes of flat lots of a size."""
    need_lots_of(many, size, 22)
    return () if flat_bar(many, size) is not None else tuple(flat_leasts(many, size))


def no_flat(many, size):
    """None if there is a flat lot of a size, otherwise the first reason that there is none."""
    need_lots_of(many, size, 22)
    reason = flat_bar(many, size)
    if reason is not None:
        return NoFlat(reason)
    return None if flat_leasts(many, size) else NoFlat("listed")


def is_nearly_flat(lot):
    """Whether any two spans of a lot, but that at 0, differ by one at most."""
    found = spans(lot)[1:]
    return max(found) - min(found) <= 1


def nearly_flat_lots(many, size):
    """The ascending tuple of the leasts of all wide classes of nearly flat lots of a size."""
    need_lots_of(many, size, 14)
    return tuple([least for least in leasts_of_size(many, size) if is_nearly_flat(least)])
