"""Classes of lots, counted and numbered."""

from itertools import combinations
from math import comb, gcd

from spanalike.basics import need_at_most, need_integer, need_size
from spanalike.classes import least_of
from spanalike.rows import Row, need_lot


def kept_by_turns(many, size):
    """How many lots of a size all turns from 0 to many - 1 keep, added up."""
    kept = 0
    for turn in range(many):
        cycles = gcd(turn, many)
        length = many // cycles
        if size % length == 0:
            kept += comb(cycles, size // length)
    return kept


def kept_by_mirrors(many, size):
    """How many lots of a size the mirrors, each turned in all ways, keep, added up."""
    kept = 0
    for turn in range(many):
        alone = len([beat for beat in range(many) if (turn - 2 * beat) % many == 0])
        pairs = (many - alone) // 2
        for chosen in range(min(alone, size) + 1):
            if (size - chosen) % 2 == 0:
                kept += comb(alone, chosen) * comb(pairs, (size - chosen) // 2)
    return kept


def many_classes(many, size):
    """How many classes there are of lots of a ring with this size."""
    need_size(many, size)
    return kept_by_turns(many, size) // many


def many_wide(many, size):
    """How many wide classes there are of lots of a ring with this size."""
    need_size(many, size)
    return (kept_by_turns(many, size) + kept_by_mirrors(many, size)) // (2 * many)


def signs_of(many, marks):
    """A lot as an integer with a binary digit for each beat, that of beat 0 the highest.

    Of lots of one size the lesser one by its marks has the greater integer.
    """
    signs = 0
    for beat in marks:
        signs += 1 << (many - 1 - beat)
    return signs


def lot_of_signs(many, signs):
    """The lot that such an integer tells."""
    return Row([(signs >> (many - 1 - beat)) & 1 for beat in range(many)])


def highest_turn(many, signs):
    """The greatest integer of all turned forms: that of the least lot of the class."""
    highest = signs
    turned = signs
    for _ in range(many - 1):
        turned = (turned >> 1) + ((turned & 1) << (many - 1))
        if turned > highest:
            highest = turned
    return highest


def marks_behind_first(many, others):
    """The ascending list of the marks of all lots that mark beat 0 and so many others."""
    return [(0,) + marks for marks in combinations(range(1, many), others)]


def least_marks(many, size):
    """The ascending list of the marks of the least lots of all classes of a size."""
    if size == 0:
        return [()]
    found = []
    for marks in marks_behind_first(many, size - 1):
        signs = signs_of(many, marks)
        if highest_turn(many, signs) == signs:
            found.append(marks)
    return found


def class_at(many, size, number):
    """The least lot of the class of this size with this number."""
    need_integer(number, "number", 0, many_classes(many, size) - 1)
    need_at_most(many, 14)
    return Row.of(many, least_marks(many, size)[number])


def number_of(lot):
    """The number of the class of a lot."""
    need_lot(lot, "lot")
    need_at_most(lot.many, 14)
    return least_marks(lot.many, lot.total).index(least_of(lot).marks)
