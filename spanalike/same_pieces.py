"""Lots with the same counts of pieces."""

from spanalike.basics import need_at_most
from spanalike.numbered import least_marks
from spanalike.papers import Denial, Paper
from spanalike.pieces import counts_of_pieces, need_piece_size, need_size_in
from spanalike.rows import Row, need_lot, need_same_beats


class SamePieces(Paper):
    """Two lots have the same counts of pieces of this size."""

    def __init__(self, size):
        Paper.__init__(self, "samepieces", size)
        self.size = self.parts[0]


class UnlikePiece(Denial):
    """A piece comes here times in the one lot, there times in the other one."""

    def __init__(self, piece, here, there):
        Denial.__init__(self, "unlikepiece", piece, here, there)
        self.piece = self.parts[0]
        self.here = self.parts[1]
        self.there = self.parts[2]


def need_lots_of_pieces(one, other, size):
    """Raises what is wrong with two lots, or a size of pieces of both."""
    need_lot(one, "one")
    need_lot(other, "other")
    need_piece_size(size)
    need_same_beats(one, other)
    need_at_most(one.many, 16)
    need_size_in(size, min(one.total, other.total))


def times_of(counts, piece):
    """How often a piece comes, by counts of pieces; 0 if they do not tell it."""
    for known, times in counts:
        if known == piece:
            return times
    return 0


def same_pieces(one, other, size):
    """That two lots have the same counts of pieces, or the least piece that denies it."""
    need_lots_of_pieces(one, other, size)
    here, there = counts_of_pieces(one, size), counts_of_pieces(other, size)
    for piece in sorted([piece for piece, _ in here + there]):
        if times_of(here, piece) != times_of(there, piece):
            return UnlikePiece(piece, times_of(here, piece), times_of(there, piece))
    return SamePieces(size)


def leasts_with(many, lot_size, size, counts):
    """The ascending list of the least lots of all classes of a size of lots with these counts.

    They are counts of pieces of a size not above that of the lots.
    """
    leasts = [Row.of(many, marks) for marks in least_marks(many, lot_size)]
    return [least for least in leasts if counts_of_pieces(least, size) == counts]


def lots_with_pieces(lot, size):
    """The ascending tuple of the least lots of all classes with the counts of a lot."""
    need_lot(lot, "lot")
    need_piece_size(size)
    need_at_most(lot.many, 12)
    need_size_in(size, lot.total)
    return tuple(leasts_with(lot.many, lot.total, size, counts_of_pieces(lot, size)))
