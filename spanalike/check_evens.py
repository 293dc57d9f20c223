"""Whether papers on even lots and deep lots are right."""

from spanalike.checks import are_integers, is_integer, is_within
from spanalike.deep import Deep, Equals, deep_word
from spanalike.evens import Even, Uneven, even_lot, even_word
from spanalike.rows import need_lot, need_marked_lot
from spanalike.spans import distances


def is_uneven(lot, total, greatest):
    """Whether any values are the distance sums that deny that a lot is even."""
    word = even_word(lot)
    if type(word) is not Uneven or not is_integer(total) or not is_integer(greatest):
        return False
    return total == word.total and greatest == word.greatest


def shows_even(lot, value):
    """Whether a value is an Even of any turn that does, or the Uneven."""
    need_marked_lot(lot, "lot")
    if type(value) is Even:
        return is_within(value.turn, 0, lot.many - 1) and even_lot(lot.many, lot.total).turned(value.turn) == lot
    if type(value) is Uneven:
        return is_uneven(lot, value.total, value.greatest)
    return False


def are_equals(counts, one, other):
    """Whether any values are two distances, the lesser first, with the same counts."""
    if not is_within(one, 1, len(counts)) or not is_within(other, 1, len(counts)):
        return False
    return one < other and counts[one - 1] == counts[other - 1]


def shows_deep(lot, value):
    """Whether a value is the Deep of a lot, or an Equals of any two distances that deny it."""
    need_lot(lot, "lot")
    if type(value) is Deep:
        word = deep_word(lot)
        return type(word) is Deep and are_integers(value.order) and tuple(value.order) == word.order
    if type(value) is Equals:
        return are_equals(distances(lot), value.one, value.other)
    return False
