"""Whether papers on quotients, bridges and families are right."""

from spanalike.alike import UnlikeSpan
from spanalike.basics import is_divisor, need_at_most, reduced
from spanalike.bridges import is_right_bridge, row_led
from spanalike.checks import are_integers, is_listed, is_within
from spanalike.families import Family, lots_alike
from spanalike.quotients import NoQuotient, Quotient
from spanalike.rows import Row, need_lot, need_row, need_rows, need_same_beats, ring_product
from spanalike.shares import is_silent
from spanalike.spans import spans


def is_quotient(whole, part, numbers, by):
    """Whether any numbers and any by are a quotient of two rows."""
    if not are_integers(numbers) or len(numbers) != whole.many or not is_within(by, 1, None):
        return False
    if reduced(numbers, by)[1] != by:
        return False
    return ring_product(part.numbers, numbers) == [number * by for number in whole.numbers]


def shows_quotient(whole, part, value):
    """Whether a value is any right Quotient, or a NoQuotient of any divisor that bars it."""
    need_row(whole, "whole")
    need_row(part, "part")
    need_same_beats(whole, part)
    if type(value) is Quotient:
        return is_quotient(whole, part, value.numbers, value.by)
    if type(value) is NoQuotient:
        divisor = value.divisor
        return is_divisor(part.many, divisor) and is_silent(part, divisor) and not is_silent(whole, divisor)
    return False


def leads(one, other, value):
    """Whether any value is a right Bridge that leads from one row to the other."""
    if not is_right_bridge(value) or len(value.numbers) != one.many:
        return False
    return row_led(one, value) == other


def shows_alike(one, other, value):
    """Whether a value is any Bridge from one row to the other, or an UnlikeSpan of any such beat."""
    need_rows(one, other)
    if type(value) is UnlikeSpan:
        return is_within(value.beat, 0, one.many - 1) and spans(one)[value.beat] != spans(other)[value.beat]
    return leads(one, other, value)


def are_rows(values):
    """Whether any value is a list or tuple of rows."""
    return is_listed(values) and all([isinstance(value, Row) for value in values])


def shows_family(lot, value):
    """Whether a value is the Family of a lot, with any right Bridges to its lots."""
    need_lot(lot, "lot")
    need_at_most(lot.many, 16)
    if type(value) is not Family or not are_rows(value.lots) or not is_listed(value.bridges):
        return False
    if list(value.lots) != lots_alike(lot) or len(value.bridges) != len(value.lots):
        return False
    return all([leads(lot, least, bridge) for least, bridge in zip(value.lots, value.bridges)])
