"""Whether papers on books, on what tells a lot, and on wrong counts are right."""

from spanalike.asking import Asked, Known, told_next
from spanalike.basics import need_at_most
from spanalike.books import need_book
from spanalike.check_spans import has_counts
from spanalike.checks import are_integers, is_integer, is_listed
from spanalike.classes import least_wide
from spanalike.judged import Always, LotKept, Never, NoLotKept, Open
from spanalike.judged import keepers_of, kept_together, need_saying_of, signs_kept
from spanalike.rows import Row, need_lot
from spanalike.spans import distances
from spanalike.telling import Kin, Telling, choices_of, rivals_by
from spanalike.wrong import MoreWrong, OneWrong, Right, lot_having, need_counts_told, rows_righted


def keeps_book(book, value):
    """Whether any value is a lot that keeps a book."""
    return isinstance(value, Row) and value.is_lot and value.many == book.many and book.keeps(value)


def is_quarrel(book, numbers):
    """Whether any value is the ascending numbers of sayings that quarrel, with none to spare."""
    if not are_integers(numbers):
        return False
    if list(numbers) != [number for number in range(len(book)) if number in numbers]:
        return False
    keepers = keepers_of(book)
    for number in numbers:
        others = [other for other in numbers if other != number]
        if kept_together(book.many, keepers, others) == 0:
            return False
    return kept_together(book.many, keepers, numbers) == 0


def shows_kept(book, value):
    """Whether a value is a LotKept of any lot that keeps a book, or a NoLotKept of any quarrel."""
    need_book(book)
    if type(value) is LotKept:
        return keeps_book(book, value.lot)
    if type(value) is NoLotKept:
        return is_quarrel(book, value.numbers)
    return False


def is_open(book, saying, one, other):
    """Whether any values are a lot that keeps a book and a saying, and one that keeps the book alone."""
    if not keeps_book(book, one) or not keeps_book(book, other):
        return False
    return saying.keeps(one) and not saying.keeps(other)


def shows_judged(book, saying, value):
    """Whether a value is the Always, the Never, or an Open of any lots."""
    need_saying_of(book, saying)
    lots = signs_kept(book)
    so = saying.kept_by(book.many, lots)
    if type(value) is Open:
        return is_open(book, saying, value.one, value.other)
    if not lots or not (type(value) is Always or type(value) is Never) or not is_integer(value.many):
        return False
    wanted = len(lots) if type(value) is Always else 0
    return value.many == len(lots) and len(so) == wanted


def is_rival(lot, value):
    """Whether any value is a lot of the size of a lot that is not in its wide class."""
    if not isinstance(value, Row) or not value.is_lot:
        return False
    return value.many == lot.many and value.total == lot.total and least_wide(value) != least_wide(lot)


def is_rival_by(lot, chosen, value):
    """Whether any value is a rival of a lot with the same counts of the distances chosen."""
    if not is_rival(lot, value):
        return False
    mine, its = distances(lot), distances(value)
    return all([mine[distance - 1] == its[distance - 1] for distance in chosen])


def is_telling(lot, told, rivals):
    """Whether any values are fewest distances that tell a lot, and rivals for each choice of fewer."""
    if not are_integers(told) or not is_listed(rivals):
        return False
    telling = [chosen for chosen, rival in rivals_by(lot, len(told)) if rival is None]
    if tuple(told) not in telling:
        return False
    lesser = choices_of(lot.many, len(told) - 1) if len(told) > 0 else []
    if len(rivals) != len(lesser):
        return False
    return all([is_rival_by(lot, chosen, rival) for chosen, rival in zip(lesser, rivals)])


def shows_telling(lot, value):
    """Whether a value is a Telling of any fewest distances, with any rivals, or a Kin of any lot."""
    need_lot(lot, "lot")
    need_at_most(lot.many, 12)
    if type(value) is Telling:
        return is_telling(lot, value.distances, value.rivals)
    if type(value) is Kin:
        return is_rival(lot, value.lot) and distances(value.lot) == distances(lot)
    return False


def are_rows_wrong(many, size, counts, rows):
    """Whether any value is the rows of a OneWrong, with any lots."""
    wanted = rows_righted(many, size, counts)
    if not is_listed(rows) or len(rows) != len(wanted) or len(rows) == 0:
        return False
    for row, right in zip(rows, wanted):
        if not is_listed(row) or len(row) != 3 or not are_integers(row[:2]) or tuple(row[:2]) != right[:2]:
            return False
        told = list(counts)
        told[right[0] - 1] = right[1]
        if not has_counts(many, size, told, row[2]):
            return False
    return True


def shows_wrong(many, size, counts, value):
    """Whether a value is a Right of any lot, the OneWrong with any lots, or the MoreWrong."""
    need_counts_told(many, size, counts)
    if type(value) is Right:
        return has_counts(many, size, counts, value.lot)
    if lot_having(many, size, counts) is not None:
        return False
    if type(value) is OneWrong:
        return are_rows_wrong(many, size, counts, value.rows)
    return type(value) is MoreWrong and not rows_righted(many, size, counts)


def shows_asked(book, value):
    """Whether a value is the Asked, or the Known, of a book that some lot keeps."""
    need_book(book)
    lots = signs_kept(book)
    if not lots:
        return False
    wanted = told_next(book.many, lots)
    if type(value) is Known:
        return type(wanted) is Known and isinstance(value.lot, Row) and value.lot == wanted.lot
    if type(value) is not Asked or type(wanted) is not Asked:
        return False
    if not is_integer(value.distance) or not is_integer(value.most):
        return False
    return value.distance == wanted.distance and value.most == wanted.most
