"""Pieces of a ring: some beats up to turning, and how often they come in a lot."""

from itertools import combinations

from spanalike.basics import need_at_most, need_integer, need_many
from spanalike.checks import first_twice, is_listed, is_within
from spanalike.errors import BadPiece, NoBeat, TooMany, Twice
from spanalike.numbered import least_marks
from spanalike.rows import need_lot


def least_beats(many, beats):
    """The piece of different beats of a ring."""
    return min([tuple(sorted([(beat - first) % many for beat in beats])) for first in beats])


def need_piece_size(size):
    """Raises BadNumber for what is no size of pieces that are counted."""
    need_integer(size, "size", 1, 5)


def piece_of(many, beats):
    """The piece of some beats, told in any order."""
    need_many(many)
    if not is_listed(beats) or len(beats) == 0:
        raise BadPiece("beats")
    for beat in beats:
        if not is_within(beat, 0, many - 1):
            raise NoBeat(beat)
    again = first_twice(beats)
    if again is not None:
        raise Twice(again)
    return least_beats(many, beats)


def is_piece(many, value):
    """Whether any value is a piece of a ring."""
    need_many(many)
    if not is_listed(value) or not 1 <= len(value) <= many:
        return False
    if not all([is_within(beat, 0, many - 1) for beat in value]):
        return False
    # a beat that stands twice would let its piece, shorter by it, pass
    return first_twice(value) is None and tuple(value) == least_beats(many, value)


def all_pieces(many, size):
    """The ascending tuple of all pieces of a size."""
    need_many(many)
    need_piece_size(size)
    need_at_most(many, 16)
    return tuple(least_marks(many, size))


def need_size_in(size, marks):
    """Raises TooMany for pieces of more beats than there are marks."""
    if size > marks:
        raise TooMany("size", marks)


def counts_of_pieces(lot, size):
    """The counts of pieces of a lot, of a size not above its own."""
    marks = list(lot.marks)
    found = {}
    for beats in combinations(marks, size):
        piece = least_beats(lot.many, beats)
        found[piece] = found.get(piece, 0) + 1
    return tuple([(piece, found[piece]) for piece in sorted(found)])


def pieces(lot, size):
    """The counts of pieces of a lot: pairs of a piece and how often it comes."""
    need_lot(lot, "lot")
    need_piece_size(size)
    need_at_most(lot.many, 16)
    need_size_in(size, lot.total)
    return counts_of_pieces(lot, size)
