"""What a book tells of the lots that keep it."""

from spanalike.books import need_book, need_fit, need_saying
from spanalike.errors import Impossible, TooMany
from spanalike.families import marks_of
from spanalike.numbered import lot_of_signs, signs_of
from spanalike.papers import Denial, Paper


class LotKept(Paper):
    """A lot that keeps a book."""

    def __init__(self, lot):
        Paper.__init__(self, "lotkept", lot)
        self.lot = self.parts[0]


class NoLotKept(Denial):
    """The sayings with these numbers quarrel, with none to spare."""

    def __init__(self, numbers):
        Denial.__init__(self, "nolotkept", numbers)
        self.numbers = self.parts[0]


class Always(Paper):
    """All lots that keep the book, so many, keep the saying."""

    def __init__(self, many):
        Paper.__init__(self, "always", many)
        self.many = self.parts[0]


class Never(Denial):
    """No lot that keeps the book, so many, keeps the saying."""

    def __init__(self, many):
        Denial.__init__(self, "never", many)
        self.many = self.parts[0]


class Open(Paper):
    """Both lots keep the book, the one the saying, too, the other one not."""

    def __init__(self, one, other):
        Paper.__init__(self, "open", one, other)
        self.one = self.parts[0]
        self.other = self.parts[1]


def all_signs(many):
    """The list of all lots of a ring, told as integers."""
    return list(range(1 << many))


def signs_kept(book):
    """The list of the lots that keep a book, told as integers."""
    lots = all_signs(book.many)
    for saying in book.sayings:
        lots = saying.kept_by(book.many, lots)
    return lots


def keepers_of(book):
    """For each saying of a book an integer with a binary digit for each lot that keeps it."""
    keepers = []
    for saying in book.sayings:
        keeper = 0
        for lot in saying.kept_by(book.many, all_signs(book.many)):
            keeper += 1 << lot
        keepers.append(keeper)
    return keepers


def kept_together(many, keepers, numbers):
    """An integer with a binary digit for each lot that keeps all the sayings with these numbers."""
    left = (1 << (1 << many)) - 1
    for number in numbers:
        left = left & keepers[number]
    return left


def first_quarrel(book):
    """The denial that some lot keeps a book that none keeps: a quarrel with none to spare."""
    keepers = keepers_of(book)
    numbers = list(range(len(keepers)))
    for number in range(len(keepers)):
        others = [other for other in numbers if other != number]
        if kept_together(book.many, keepers, others) == 0:
            numbers = others
    return NoLotKept(numbers)


def need_kept(book):
    """The list of the lots that keep a book, as integers; Impossible if there is none."""
    lots = signs_kept(book)
    if not lots:
        raise Impossible(first_quarrel(book))
    return lots


def lot_kept(book):
    """A lot that keeps a book, or a quarrel that denies it."""
    need_book(book)
    lots = signs_kept(book)
    return LotKept(lot_of_signs(book.many, lots[0])) if lots else first_quarrel(book)


def many_kept(book):
    """How many lots keep a book."""
    need_book(book)
    return len(signs_kept(book))


def kept_lots(book):
    """The ascending tuple of all lots that keep a book."""
    need_book(book)
    lots = signs_kept(book)
    if len(lots) > 500:
        raise TooMany("lots", 500)
    return tuple(sorted([lot_of_signs(book.many, lot) for lot in lots], key=marks_of))


def need_saying_of(book, saying):
    """Raises what is wrong with a book, or a saying on its ring."""
    need_book(book)
    need_saying(saying)
    need_fit(saying, book.many)


def judged(book, saying):
    """Whether a saying is always so in a book, never, or open."""
    need_saying_of(book, saying)
    lots = need_kept(book)
    so = saying.kept_by(book.many, lots)
    if len(so) == len(lots):
        return Always(len(lots))
    if not so:
        return Never(len(lots))
    known = set(so)
    others = [lot for lot in lots if lot not in known]
    return Open(lot_of_signs(book.many, so[0]), lot_of_signs(book.many, others[0]))


def sure_beats(book):
    """The pair of the tuples of the beats that are surely marked, and surely free."""
    need_book(book)
    lots = need_kept(book)
    marked, free = [], []
    for beat in range(book.many):
        sign = signs_of(book.many, (beat,))
        marking = len([lot for lot in lots if (lot & sign) == sign])
        if marking == len(lots):
            marked.append(beat)
        if marking == 0:
            free.append(beat)
    return tuple(marked), tuple(free)
