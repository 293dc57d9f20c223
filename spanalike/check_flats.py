"""Whether papers on flat lots and thin lots are right."""

from spanalike.checks import is_integer, is_within
from spanalike.flat_lots import NoFlat, flat_bar, flat_leasts, need_lots_of
from spanalike.flats import Bent, Flat, flat_word
from spanalike.rows import Row, need_lot
from spanalike.spans import spans
from spanalike.thin import MostThin, is_thin, most_thin


def are_unlike(told, half, one, other):
    """Whether any values are two distances, the lesser first, at which the spans told are unlike.

    The greatest distance is half.
    """
    if not is_within(one, 1, half) or not is_within(other, 1, half):
        return False
    return one < other and told[one] != told[other]


def shows_flat(lot, value):
    """Whether a value is the Flat of a lot, or a Bent of any two distances that deny it."""
    need_lot(lot, "lot")
    if type(value) is Flat:
        word = flat_word(lot)
        return type(word) is Flat and is_integer(value.number) and value.number == word.number
    if type(value) is Bent:
        return are_unlike(spans(lot), lot.many // 2, value.one, value.other)
    return False


def shows_no_flat(many, size, value):
    """Whether a value is None and there is a flat lot, or the NoFlat of the first reason."""
    need_lots_of(many, size, 22)
    reason = flat_bar(many, size)
    if value is None:
        return reason is None and len(flat_leasts(many, size)) > 0
    if type(value) is not NoFlat or not isinstance(value.reason, str):
        return False
    if reason is not None:
        return value.reason == reason
    return value.reason == "listed" and len(flat_leasts(many, size)) == 0


def shows_most_thin(many, value):
    """Whether a value is a MostThin of any thin lot with most marks, with the right reason."""
    wanted = most_thin(many)
    if type(value) is not MostThin or not isinstance(value.reason, str) or not isinstance(value.lot, Row):
        return False
    lot = value.lot
    if not lot.is_lot or lot.many != many or lot.total != wanted.lot.total:
        return False
    return is_thin(lot) and value.reason == wanted.reason
