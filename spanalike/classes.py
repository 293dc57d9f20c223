"""Classes of rows: what turning, mirroring and stretching make of one."""

from math import gcd

from spanalike.rows import need_row, need_rows


def rank_of(row):
    """The tuple by which rows are compared: of lots the marks, of others the numbers."""
    return row.marks if row.is_lot else row.numbers


def turned_forms(row):
    """The list of a row turned by 0, 1, .. up to many - 1."""
    return [row.turned(turn) for turn in range(row.many)]


def stretches_of(many):
    """The list of the integers by which a row of a ring can be stretched."""
    return [by for by in range(1, many) if gcd(by, many) == 1]


def turns_keeping(row):
    """The ascending tuple of the turns that keep a row."""
    need_row(row, "row")
    return tuple([turn for turn, form in enumerate(turned_forms(row)) if form == row])


def stretches_keeping(row):
    """The ascending tuple of all pairs (by, turn) by which, stretched and turned, a row stays."""
    need_row(row, "row")
    return tuple([
        (by, turn)
        for by in stretches_of(row.many)
        for turn, form in enumerate(turned_forms(row.stretched(by)))
        if form == row
    ])


def least_of(row):
    """The least row of its class."""
    need_row(row, "row")
    return min(turned_forms(row), key=rank_of)


def least_wide(row):
    """The least row of its wide class."""
    need_row(row, "row")
    return min(turned_forms(row) + turned_forms(row.mirrored()), key=rank_of)


def least_broad(row):
    """The least row of its broad class."""
    need_row(row, "row")
    leasts = [least_of(row.stretched(by)) for by in stretches_of(row.many)]
    return min(leasts, key=rank_of)


def turn_to(one, other):
    """The least turn that makes other of one, None if there is none."""
    for turn, form in enumerate(turned_forms(one)):
        if form == other:
            return turn
    return None


def same_class(one, other):
    """The least turn that makes other of one, None if there is none."""
    need_rows(one, other)
    return turn_to(one, other)


def same_wide(one, other):
    """The least pair (is_mirrored, turn) that makes other of one, None if there is none."""
    need_rows(one, other)
    turn = turn_to(one, other)
    if turn is not None:
        return (False, turn)
    turn = turn_to(one.mirrored(), other)
    if turn is not None:
        return (True, turn)
    return None


def same_broad(one, other):
    """The least pair (by, turn) that makes other of one, None if there is none."""
    need_rows(one, other)
    for by in stretches_of(one.many):
        turn = turn_to(one.stretched(by), other)
        if turn is not None:
            return (by, turn)
    return None
