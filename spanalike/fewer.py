"""What counts of pieces tell of lesser pieces, and of what is left out."""

from spanalike.basics import need_integer, need_many
from spanalike.checks import is_listed, is_within
from spanalike.errors import BadNumber, BadPiece
from spanalike.numbered import least_marks
from spanalike.pieces import is_piece, least_beats
from spanalike.span_bars import spans_told


def is_count(many, value):
    """Whether any value is a pair of a piece of a ring and an integer from 1 on."""
    return is_listed(value) and len(value) == 2 and is_piece(many, value[0]) and is_within(value[1], 1, None)


def are_counts(many, told):
    """Whether any value is counts of pieces of one size, one pair or more."""
    if not is_listed(told) or len(told) == 0 or not all([is_count(many, pair) for pair in told]):
        return False
    found = [tuple(pair[0]) for pair in told]
    if not all([len(piece) == len(found[0]) for piece in found]):
        return False
    return all([piece < behind for piece, behind in zip(found, found[1:])])


def parts_of(many, told):
    """How often each piece of a beat fewer is a part of the pieces told, as a dict."""
    parts = {}
    for piece, times in told:
        for left in range(len(piece)):
            part = least_beats(many, piece[:left] + piece[left + 1:])
            parts[part] = parts.get(part, 0) + times
    return parts


def fewer(many, lot_size, told):
    """The counts of a beat fewer that go with counts told for an unseen lot of this size.

    None if they cannot be those of such a lot.
    """
    need_many(many)
    need_integer(lot_size, "lot_size", 2, many)
    if not are_counts(many, told):
        raise BadPiece("told")
    size = len(told[0][0])
    if not 2 <= size <= 5 or size > lot_size:
        raise BadPiece("told")
    parts = parts_of(many, told)
    # each set of a mark fewer lies in so many sets of this size
    sets = lot_size - size + 1
    if any([times % sets != 0 for times in parts.values()]):
        return None
    return tuple([(piece, parts[piece] // sets) for piece in sorted(parts)])


def need_left_out(many, lot_size, told):
    """Raises what is wrong with a ring, the size of a lot, or the distances told for it."""
    need_many(many)
    need_integer(lot_size, "lot_size", 0, many)
    if not is_listed(told) or len(told) != many // 2:
        raise BadNumber("distances")
    if not all([is_within(count, 0, None) for count in told]):
        raise BadNumber("distances")


def turns_of_three(many, piece):
    """How many turnings keep a piece of three, whose first gap is its least one."""
    return 3 if piece[1] * 3 == many else 1


def left_out_threes(many, lot_size, distances, threes):
    """The threes of what is left out of a lot, from its distances and its threes, or None."""
    need_left_out(many, lot_size, distances)
    if not is_listed(threes) or (len(threes) > 0 and not are_counts(many, threes)):
        raise BadPiece("threes")
    if len(threes) > 0 and len(threes[0][0]) != 3:
        raise BadPiece("threes")
    if many - lot_size < 3:
        return ()
    spans = spans_told(many, lot_size, distances)
    known = {tuple(piece): times for piece, times in threes}
    found = []
    for piece in least_marks(many, 3):
        turns = turns_of_three(many, piece)
        free = many - 3 * lot_size + spans[piece[1]] + spans[piece[2]] + spans[piece[2] - piece[1]]
        free = free - known.get(piece, 0) * turns
        if free < 0:
            return None
        if free > 0:
            found.append((piece, free // turns))
    return tuple(found)
