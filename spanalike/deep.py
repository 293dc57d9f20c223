"""Deep lots: no two distances come equally often."""

from spanalike.basics import need_at_most, need_integer
from spanalike.families import leasts_of_size, marks_of
from spanalike.papers import Denial, Paper
from spanalike.spans import distances


class Deep(Paper):
    """The distances, those that come more often first."""

    def __init__(self, order):
        Paper.__init__(self, "deep", order)
        self.order = self.parts[0]


class Equals(Denial):
    """Two distances, one less than other, that come equally often."""

    def __init__(self, one, other):
        Denial.__init__(self, "equals", one, other)
        self.one = self.parts[0]
        self.other = self.parts[1]


def deep_word(lot):
    """The order of the distances of a deep lot, or the least two that come equally often."""
    counts = distances(lot)
    for one, count in enumerate(counts):
        for other in range(one + 1, len(counts)):
            if counts[other] == count:
                return Equals(one + 1, other + 1)
    falling = sorted([(-count, index + 1) for index, count in enumerate(counts)])
    return Deep([distance for _, distance in falling])


def deep_lots(many):
    """The ascending tuple of the least lots of the wide classes of all deep lots of a ring."""
    need_integer(many, "many", 2, None)
    need_at_most(many, 14)
    leasts = []
    for size in range(many + 1):
        leasts.extend([least for least in leasts_of_size(many, size) if deep_word(least)])
    return tuple(sorted(leasts, key=marks_of))
