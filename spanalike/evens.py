"""Even lots: their marks stand as evenly as they can."""

from spanalike.basics import need_integer, need_many
from spanalike.classes import turn_to
from spanalike.papers import Denial, Paper
from spanalike.rows import Row, need_marked_lot
from spanalike.spans import distances


class Even(Paper):
    """The even lot of the size of a lot, turned by turn, is this lot."""

    def __init__(self, turn):
        Paper.__init__(self, "even", turn)
        self.turn = self.parts[0]


class Uneven(Denial):
    """The distance sum of a lot, and the greater one of the even lot of its size."""

    def __init__(self, total, greatest):
        Denial.__init__(self, "uneven", total, greatest)
        self.total = self.parts[0]
        self.greatest = self.parts[1]


def even_lot(many, size):
    """The even lot of a size."""
    need_many(many)
    need_integer(size, "size", 1, many)
    return Row.of(many, [index * many // size for index in range(size)])


def distance_sum(lot):
    """For each two marks of a lot their distance times what many is above it, added up."""
    need_marked_lot(lot, "lot")
    return sum([count * (index + 1) * (lot.many - index - 1) for index, count in enumerate(distances(lot))])


def even_word(lot):
    """The least turn that makes a lot of the even one of its size, or the sums that deny it."""
    need_marked_lot(lot, "lot")
    even = even_lot(lot.many, lot.total)
    turn = turn_to(even, lot)
    if turn is None:
        return Uneven(distance_sum(lot), distance_sum(even))
    return Even(turn)
