"""Whether papers on pieces are right."""

from spanalike.checks import is_integer, is_listed
from spanalike.classes import least_of
from spanalike.pieces import counts_of_pieces, is_piece
from spanalike.rebuilt import Told, first_rivals, need_marked
from spanalike.rows import Row
from spanalike.same_pieces import SamePieces, UnlikePiece, need_lots_of_pieces, times_of


def is_unlike(one, other, size, value):
    """Whether the parts of an UnlikePiece, any values, tell unlike counts of two lots."""
    piece, here, there = value.piece, value.here, value.there
    if not is_piece(one.many, piece) or len(piece) != size:
        return False
    if not is_integer(here) or not is_integer(there) or here == there:
        return False
    counts = [counts_of_pieces(lot, size) for lot in (one, other)]
    return [times_of(told, tuple(piece)) for told in counts] == [here, there]


def shows_same_pieces(one, other, size, value):
    """Whether a value is the SamePieces, or an UnlikePiece of any piece of this size."""
    need_lots_of_pieces(one, other, size)
    if type(value) is SamePieces:
        if not is_integer(value.size) or value.size != size:
            return False
        return counts_of_pieces(one, size) == counts_of_pieces(other, size)
    if type(value) is UnlikePiece:
        return is_unlike(one, other, size, value)
    return False


def is_rival(lot, size, value):
    """Whether any value is a lot of another class than a lot, with the same counts of this size."""
    if not isinstance(value, Row) or not value.is_lot:
        return False
    if value.many != lot.many or value.total != lot.total or least_of(value) == least_of(lot):
        return False
    return counts_of_pieces(value, size) == counts_of_pieces(lot, size)


def shows_told(lot, value):
    """Whether a value is a Told with the size, and any rivals of the lesser ones."""
    need_marked(lot)
    if type(value) is not Told or not is_integer(value.size) or not is_listed(value.rivals):
        return False
    lesser = len(first_rivals(lot))
    if value.size != lesser + 1 or len(value.rivals) != lesser:
        return False
    return all([is_rival(lot, index + 1, rival) for index, rival in enumerate(value.rivals)])
