"""Spans of rows, and counts of distances of lots."""

from spanalike.basics import need_size
from spanalike.checks import is_listed, is_within
from spanalike.errors import BadNumber
from spanalike.rows import need_lot, need_row, need_rows, ring_product


def need_counts(many, size, counts):
    """Raises what is wrong with a ring, a size, or the counts that are told for it."""
    need_size(many, size)
    if not is_listed(counts) or len(counts) != many // 2:
        raise BadNumber("counts")
    for count in counts:
        if not is_within(count, 0, None):
            raise BadNumber("counts")


def cross_spans(one, other):
    """The tuple of the cross spans of two rows, from beat 0 on."""
    need_rows(one, other)
    return tuple(ring_product(one.mirrored().numbers, other.numbers))


def spans(row):
    """The tuple of the spans of a row, from beat 0 on."""
    need_row(row, "row")
    return cross_spans(row, row)


def counts_of(lot):
    """The tuple of the counts of a lot."""
    found = spans(lot)
    return tuple([
        found[distance] // 2 if 2 * distance == lot.many else found[distance]
        for distance in range(1, lot.many // 2 + 1)
    ])


def distances(lot):
    """The tuple of the counts of a lot."""
    need_lot(lot, "lot")
    return counts_of(lot)


def coming(lot):
    """The ascending tuple of the distances that come in a lot."""
    return tuple([index + 1 for index, count in enumerate(distances(lot)) if count > 0])


def not_coming(lot):
    """The ascending tuple of the distances that do not come in a lot."""
    return tuple([index + 1 for index, count in enumerate(distances(lot)) if count == 0])


def distances_left_out(many, size, counts):
    """The counts of what a lot of this size with these counts leaves out, by reckoning alone."""
    need_counts(many, size, counts)
    more = [many - 2 * size] * len(counts)
    if many % 2 == 0:
        more[-1] = many // 2 - size
    return tuple([count + some for count, some in zip(counts, more)])
