"""What to ask next, and which sayings are idle or quarrel."""

from spanalike.basics import choices_below
from spanalike.books import need_book
from spanalike.errors import TooMany
from spanalike.families import marks_of
from spanalike.judged import keepers_of, kept_together, need_kept
from spanalike.numbered import lot_of_signs, signs_of
from spanalike.papers import Paper
from spanalike.spans import distances


class Asked(Paper):
    """The distance to ask for, and how many wide classes are left at the worst."""

    def __init__(self, distance, most):
        Paper.__init__(self, "asked", distance, most)
        self.distance = self.parts[0]
        self.most = self.parts[1]


class Known(Paper):
    """The least lot of the one wide class that is left."""

    def __init__(self, lot):
        Paper.__init__(self, "known", lot)
        self.lot = self.parts[0]


def wide_forms(many, signs):
    """The list of all lots of the wide class of a lot, told as integers."""
    lot = lot_of_signs(many, signs)
    forms = [signs]
    for form in (lot, lot.mirrored()):
        turned = signs_of(many, form.marks)
        for _ in range(many):
            turned = (turned >> 1) + ((turned & 1) << (many - 1))
            forms.append(turned)
    return forms


def wide_leasts(many, lots):
    """The ascending list of the least lots of the wide classes of lots, told as integers."""
    seen = set()
    leasts = []
    for signs in lots:
        if signs not in seen:
            forms = wide_forms(many, signs)
            for form in forms:
                seen.add(form)
            leasts.append(lot_of_signs(many, max(forms)))
    return sorted(leasts, key=marks_of)


def most_left(counts, index):
    """How many lots have the same count at an index, at the worst; counts are those of each lot."""
    left = {}
    for its in counts:
        left[its[index]] = left.get(its[index], 0) + 1
    return max(list(left.values()))


def told_next(many, lots):
    """The Known, or the Asked, of a book that lots, told as integers, keep."""
    leasts = wide_leasts(many, lots)
    if len(leasts) == 1:
        return Known(leasts[0])
    counts = [distances(least) for least in leasts]
    worst = [most_left(counts, index) for index in range(many // 2)]
    return Asked(worst.index(min(worst)) + 1, min(worst))


def next_distance(book):
    """The distance whose count leaves fewest wide classes at the worst, or the one class left."""
    need_book(book)
    return told_next(book.many, need_kept(book))


def idle_sayings(book):
    """The ascending tuple of the numbers of the sayings that are always so in the book without."""
    need_book(book)
    need_kept(book)
    keepers = keepers_of(book)
    numbers = list(range(len(book)))
    kept = kept_together(book.many, keepers, numbers)
    idle = []
    for number in numbers:
        others = [other for other in numbers if other != number]
        if kept_together(book.many, keepers, others) == kept:
            idle.append(number)
    return tuple(idle)


def holds_all(numbers, others):
    """Whether all the others are among the numbers."""
    return all([other in numbers for other in others])


def quarrels(book):
    """The tuple of all quarrels with none to spare."""
    need_book(book)
    if len(book) > 6:
        raise TooMany("sayings", 6)
    keepers = keepers_of(book)
    found = []
    for count in range(1, len(book) + 1):
        for numbers in choices_below(len(book), count):
            is_spared = any([holds_all(numbers, others) for others in found])
            if not is_spared and kept_together(book.many, keepers, numbers) == 0:
                found.append(numbers)
    return tuple(found)
