"""Lots that their counts of pieces tell."""

from spanalike.basics import need_at_most, need_many
from spanalike.classes import least_of
from spanalike.errors import BadPiece
from spanalike.fewer import are_counts
from spanalike.papers import Paper
from spanalike.pieces import counts_of_pieces
from spanalike.rows import need_marked_lot
from spanalike.same_pieces import leasts_with


class Told(Paper):
    """The least size of pieces that tells a lot, and a rival for each lesser size."""

    def __init__(self, size, rivals):
        Paper.__init__(self, "told", size, rivals)
        self.size = self.parts[0]
        self.rivals = self.parts[1]


def need_marked(lot):
    """Raises what is wrong with a lot of 12 beats at most, with a mark at least."""
    need_marked_lot(lot, "lot")
    need_at_most(lot.many, 12)


def first_rivals(lot):
    """The list of the first rivals of a lot, by pieces of 1, 2, .. beats, as long as there are some.

    All marks of a lot at once tell it, so there are fewer of them than marks.
    """
    least = least_of(lot)
    rivals = []
    for size in range(1, lot.total):
        same = leasts_with(lot.many, lot.total, size, counts_of_pieces(lot, size))
        others = [other for other in same if other != least]
        if not others:
            return rivals
        rivals.append(others[0])
    return rivals


def telling_size(lot):
    """The least size of pieces that tells a lot, with the rivals."""
    need_marked(lot)
    rivals = first_rivals(lot)
    return Told(len(rivals) + 1, rivals)


def rebuilt(many, threes):
    """The ascending tuple of the least lots of all classes with just these threes."""
    need_many(many)
    if not are_counts(many, threes) or len(threes[0][0]) != 3:
        raise BadPiece("threes")
    need_at_most(many, 12)
    counts = tuple([(tuple(piece), times) for piece, times in threes])
    found = sum([times for _, times in counts])
    for size in range(3, many + 1):
        if size * (size - 1) * (size - 2) // 6 == found:
            return tuple(leasts_with(many, size, 3, counts))
    return ()
