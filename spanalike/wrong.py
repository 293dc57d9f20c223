"""Counts that were told, perhaps one of them wrongly."""

from spanalike.basics import need_at_most
from spanalike.papers import Denial, Paper
from spanalike.rows import Row
from spanalike.span_bars import marks_with_counts, pairs_of
from spanalike.spans import need_counts


class Right(Paper):
    """A lot that has the counts."""

    def __init__(self, lot):
        Paper.__init__(self, "right", lot)
        self.lot = self.parts[0]


class OneWrong(Denial):
    """The counts are wrong at one: each distance, the number that it should have, and a lot."""

    def __init__(self, rows):
        Denial.__init__(self, "onewrong", rows)
        self.rows = self.parts[0]


class MoreWrong(Denial):
    """No lot has the counts, nor has one with another number for one of them."""

    def __init__(self):
        Denial.__init__(self, "morewrong")


def lot_having(many, size, counts):
    """A lot of this size with these counts, None if there is none."""
    found = marks_with_counts(many, size, counts)
    return Row.of(many, found[0]) if found else None


def rows_righted(many, size, counts):
    """The list of (distance, number, lot) for each one count that can be righted."""
    over = sum(counts) - pairs_of(size)
    if over == 0:
        return []
    rows = []
    for index, count in enumerate(counts):
        number = count - over
        if number >= 0:
            lot = lot_having(many, size, list(counts[:index]) + [number] + list(counts[index + 1:]))
            if lot is not None:
                rows.append((index + 1, number, lot))
    return rows


def need_counts_told(many, size, counts):
    """Raises what is wrong with counts that are told on 12 beats at most."""
    need_counts(many, size, counts)
    need_at_most(many, 12)


def one_wrong(many, size, counts):
    """Whether counts are right, wrong at one, or wrong at more."""
    need_counts_told(many, size, counts)
    lot = lot_having(many, size, counts)
    if lot is not None:
        return Right(lot)
    rows = rows_righted(many, size, counts)
    return OneWrong(rows) if rows else MoreWrong()
