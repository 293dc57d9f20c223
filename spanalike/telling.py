"""Which distances tell a lot."""

from itertools import combinations

from spanalike.basics import need_at_most
from spanalike.classes import least_wide
from spanalike.errors import Impossible
from spanalike.families import leasts_of_size
from spanalike.papers import Denial, Paper
from spanalike.rows import need_lot
from spanalike.spans import counts_of


class Telling(Paper):
    """Fewest distances that tell a lot, and a rival for each choice of one fewer."""

    def __init__(self, distances, rivals):
        Paper.__init__(self, "telling", distances, rivals)
        self.distances = self.parts[0]
        self.rivals = self.parts[1]


class Kin(Denial):
    """A lot of the size and the counts of another one, not in its wide class."""

    def __init__(self, lot):
        Denial.__init__(self, "kin", lot)
        self.lot = self.parts[0]


def others_of(lot):
    """The pairs of the least lot of each other wide class of the size of a lot, and its counts."""
    mine = least_wide(lot)
    leasts = leasts_of_size(lot.many, lot.total)
    return [(least, counts_of(least)) for least in leasts if least != mine]


def rival_by(others, counts, chosen):
    """The first of the others that has these counts at the distances chosen, None if none has."""
    for other, its in others:
        if all([its[distance - 1] == counts[distance - 1] for distance in chosen]):
            return other
    return None


def choices_of(many, count):
    """The list of all tuples of so many distances of a ring, ascending."""
    return list(combinations(range(1, many // 2 + 1), count))


def rivals_by(lot, count):
    """For each tuple of so many distances the pair of it and a rival of the lot, or None."""
    others, counts = others_of(lot), counts_of(lot)
    return [(chosen, rival_by(others, counts, chosen)) for chosen in choices_of(lot.many, count)]


def fewest_distances(lot):
    """The fewest distances that tell a lot, with the rivals."""
    need_lot(lot, "lot")
    need_at_most(lot.many, 12)
    kin = rivals_by(lot, lot.many // 2)[0][1]
    if kin is not None:
        raise Impossible(Kin(kin))
    rivals = []
    for count in range(lot.many // 2 + 1):
        found = rivals_by(lot, count)
        telling = [chosen for chosen, rival in found if rival is None]
        if telling:
            return Telling(telling[0], rivals)
        rivals = [rival for _, rival in found]
