"""All that sounds alike."""

from math import isqrt

from spanalike.alike import alike
from spanalike.basics import need_at_most, need_size
from spanalike.classes import least_wide
from spanalike.errors import TooMany
from spanalike.numbered import highest_turn, least_marks, signs_of
from spanalike.papers import Paper
from spanalike.rows import Row, need_lot, need_row, need_rows
from spanalike.span_bars import marks_with_counts
from spanalike.spans import distances, spans


class Family(Paper):
    """The least lots of the wide classes alike with a lot, and a bridge to each of them."""

    def __init__(self, lots, bridges):
        Paper.__init__(self, "family", lots, bridges)
        self.lots = self.parts[0]
        self.bridges = self.parts[1]


def marks_of(row):
    """The marks of a row."""
    return row.marks


def lots_alike(lot):
    """The ascending list of the least lot of each wide class with one that is alike with a lot."""
    leasts = {}
    for marks in marks_with_counts(lot.many, lot.total, distances(lot)):
        least = least_wide(Row.of(lot.many, marks))
        leasts[least.marks] = least
    return sorted(list(leasts.values()), key=marks_of)


def alike_lots(lot):
    """The family of a lot, with the bridges."""
    need_lot(lot, "lot")
    need_at_most(lot.many, 16)
    leasts = lots_alike(lot)
    return Family(leasts, [alike(lot, least) for least in leasts])


def is_least_wide(many, marks):
    """Whether marks that are least of their class are so of their wide class, too."""
    backward = [(many - beat) % many for beat in marks]
    return highest_turn(many, signs_of(many, backward)) <= signs_of(many, marks)


def leasts_of_size(many, size):
    """The ascending list of the least lots of all wide classes of a size."""
    return [Row.of(many, marks) for marks in least_marks(many, size) if is_least_wide(many, marks)]


def families(many, size):
    """The ascending tuple of the lots of all families of two lots or more of this size."""
    need_size(many, size)
    need_at_most(many, 14)
    by_counts = {}
    for lot in leasts_of_size(many, size):
        by_counts.setdefault(distances(lot), []).append(lot)
    # each list begins with the least lot of all classes with these counts, in ascending order
    return tuple([tuple(lots) for lots in by_counts.values() if len(lots) > 1])


def add_numbers(many, square, ahead, found):
    """Puts into found, ascending, the tuples of so many integers that begin with those ahead.

    Those alone whose further squares add up to this square.
    """
    if len(ahead) == many:
        if square == 0:
            found.append(ahead)
        return
    most = isqrt(square)
    for number in range(-most, most + 1):
        add_numbers(many, square - number * number, ahead + (number,), found)


def alike_rows(row):
    """The ascending tuple of all rows that are alike with a row."""
    need_row(row, "row")
    need_at_most(row.many, 6)
    its = spans(row)
    if its[0] > 12:
        raise TooMany("span", 12)
    found = []
    add_numbers(row.many, its[0], (), found)
    rows = [Row(numbers) for numbers in found]
    return tuple([other for other in rows if spans(other) == its])


def product_pair(one, other):
    """The pair of the products of one with other, and of one with other mirrored."""
    need_rows(one, other)
    return (one.product(other), one.product(other.mirrored()))
