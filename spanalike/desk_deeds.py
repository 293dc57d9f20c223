"""What the deed lines of a desk do."""

from spanalike.basics import written
from spanalike.books import Book
from spanalike.desk_lines import DEEDS, read_line_of
from spanalike.folded import folded
from spanalike.rows import Row
from spanalike.shelves import kind_of, need_shelf, things_named, with_changed, with_new, without_thing


def numbers_line(numbers):
    """Numbers with blanks between, `-` if there is none."""
    return " ".join([written(number) for number in numbers]) if len(numbers) > 0 else "-"


def do_row(shelf, told, things):
    """Keeps a row."""
    return with_new(shelf, told[1], told[2]), written(told[2].total)


def do_lot(shelf, told, things):
    """Keeps the lot of a ring with these marks."""
    lot = Row.of(told[2], told[3:])
    return with_new(shelf, told[1], lot), str(lot.total)


def do_strip(shelf, told, things):
    """Keeps a strip."""
    return with_new(shelf, told[1], told[2]), str(told[2].length)


def do_book(shelf, told, things):
    """Keeps the book of a ring without sayings."""
    later = with_new(shelf, told[1], Book(told[2]))
    return later, str(len(later.names))


def with_marks(shelf, name, thing):
    """The shelf with a row or a strip in the place of the one under this name, and its marks."""
    return with_changed(shelf, name, thing), numbers_line(thing.marks)


def do_turn(shelf, told, things):
    """Turns a row."""
    return with_marks(shelf, told[1], things[0].turned(told[2]))


def do_mirror(shelf, told, things):
    """Mirrors a row, or reverses a strip."""
    thing = things[0]
    return with_marks(shelf, told[1], thing.mirrored() if kind_of(thing) == "row" else thing.backward())


def do_stretch(shelf, told, things):
    """Stretches a row."""
    return with_marks(shelf, told[1], things[0].stretched(told[2]))


def do_leave(shelf, told, things):
    """Puts what is left out of a row in its place."""
    return with_marks(shelf, told[1], things[0].left_out())


def do_product(shelf, told, things):
    """Keeps the product of two rows, or of two strips."""
    found = things[0].product(things[1])
    return with_new(shelf, told[1], found), written(found.total)


def do_fold(shelf, told, things):
    """Keeps the row that the numbers of a strip make round a ring."""
    found = folded(things[0].numbers, told[3])
    return with_new(shelf, told[1], found), written(found.total)


def do_tell(shelf, told, things):
    """Puts a saying behind those of a book."""
    book = things[0].with_saying(told[2])
    return with_changed(shelf, told[1], book), str(len(book) - 1)


def do_strike(shelf, told, things):
    """Takes sayings out of a book."""
    book = things[0].without(told[2:])
    return with_changed(shelf, told[1], book), str(len(book))


def do_drop(shelf, told, things):
    """Takes out a thing."""
    later = without_thing(shelf, told[1])
    return later, str(len(later.names))


DOERS = {
    "row": do_row,
    "lot": do_lot,
    "strip": do_strip,
    "book": do_book,
    "turn": do_turn,
    "mirror": do_mirror,
    "stretch": do_stretch,
    "leave": do_leave,
    "product": do_product,
    "fold": do_fold,
    "tell": do_tell,
    "strike": do_strike,
    "drop": do_drop,
}


def changed(shelf, line):
    """The pair of the shelf behind a deed line, and the answer."""
    need_shelf(shelf)
    told = read_line_of(line, DEEDS)
    things = things_named(shelf, told)
    doer = DOERS[told[0]]
    return doer(shelf, told, things)
