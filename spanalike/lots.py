"""All lots of a size."""

from itertools import combinations

from spanalike.basics import need_at_most, need_size
from spanalike.rows import Row, need_lot


def lots_of(many, size):
    """The tuple of all lots of a ring with this size, ascending."""
    need_size(many, size)
    need_at_most(many, 14)
    return tuple([Row.of(many, marks) for marks in combinations(range(many), size)])


def is_half(lot):
    """Whether a lot marks half of the beats."""
    need_lot(lot, "lot")
    return 2 * lot.total == lot.many
