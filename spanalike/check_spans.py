"""Whether papers on counts that are told are right."""

from spanalike.basics import is_divisor, need_at_most
from spanalike.checks import is_integer
from spanalike.rows import Row
from spanalike.span_bars import KINDS, CountsBar, HasLot, NoLot
from spanalike.span_bars import counts_bar, is_barred, marks_with_counts, number_at, pairs_of
from spanalike.spans import distances, need_counts


def is_bar(many, size, counts, kind, number):
    """Whether the CountsBar of any kind and number is one."""
    if not isinstance(kind, str) or not is_integer(number):
        return False
    if kind == "pairs":
        return number == sum(counts) and number != pairs_of(size)
    if kind not in KINDS or not is_divisor(many, number):
        return False
    return is_barred(kind, number, number_at(many, size, counts, number))


def shows_bar(many, size, counts, value):
    """Whether a value is None and there is no bar, or is any bar of the counts."""
    need_counts(many, size, counts)
    if value is None:
        return counts_bar(many, size, counts) is None
    if type(value) is CountsBar:
        return is_bar(many, size, counts, value.kind, value.number)
    return False


def has_counts(many, size, counts, lot):
    """Whether any value is a lot of this ring and size with these counts."""
    if not isinstance(lot, Row) or not lot.is_lot:
        return False
    return lot.many == many and lot.total == size and distances(lot) == tuple(counts)


def shows_lot(many, size, counts, value):
    """Whether a value is a HasLot of any lot with the counts, or the NoLot if there is none."""
    need_counts(many, size, counts)
    need_at_most(many, 16)
    if type(value) is HasLot:
        return has_counts(many, size, counts, value.lot)
    if type(value) is NoLot:
        return not marks_with_counts(many, size, counts)
    return False
