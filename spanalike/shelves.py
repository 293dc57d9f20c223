"""Shelves: what a desk keeps."""

from spanalike.books import Book
from spanalike.checks import first_twice, is_listed, is_name
from spanalike.desk_lines import KINDS, names_in, new_name
from spanalike.errors import BadDesk, Misfit, NoName, Twice
from spanalike.rows import Row
from spanalike.strips import Strip


def kind_of(thing):
    """The word for what a thing is, None for what is nothing that is kept."""
    if isinstance(thing, Row):
        return "row"
    if isinstance(thing, Strip):
        return "strip"
    if isinstance(thing, Book):
        return "book"
    return None


def is_named_thing(value):
    """Whether any value is a pair of a name and a thing."""
    return is_listed(value) and len(value) == 2 and is_name(value[0]) and kind_of(value[1]) is not None


def thing_of(shelf, name):
    """The thing that is kept under a name; NoName for any value under which nothing is kept."""
    if not is_name(name) or name not in shelf.names:
        raise NoName(name)
    return shelf.things[shelf.names.index(name)][1]


def thing_of_kind(shelf, name, kind):
    """The thing of this kind that is kept under a name."""
    thing = thing_of(shelf, name)
    if kind_of(thing) != kind:
        raise Misfit("kinds")
    return thing


class Shelf:
    """Things, each under a name, in the order in which they were put in."""

    def __init__(self, things=()):
        if not is_listed(things) or not all([is_named_thing(pair) for pair in things]):
            raise BadDesk("things")
        self.things = tuple([(pair[0], pair[1]) for pair in things])
        self.names = tuple([pair[0] for pair in things])
        again = first_twice(self.names)
        if again is not None:
            raise Twice(again)

    def __eq__(self, other):
        return isinstance(other, Shelf) and self.things == other.things

    def row(self, name):
        """The row that is kept under a name."""
        return thing_of_kind(self, name, "row")

    def strip(self, name):
        """The strip that is kept under a name."""
        return thing_of_kind(self, name, "strip")

    def book(self, name):
        """The book that is kept under a name."""
        return thing_of_kind(self, name, "book")


def shelf_of(names, things):
    """The shelf of things that are known to be right, and their names: not looked at once more."""
    shelf = Shelf()
    shelf.names = names
    shelf.things = things
    return shelf


def with_new(shelf, name, thing):
    """The shelf with a new thing behind the others."""
    return shelf_of(shelf.names + (name,), shelf.things + ((name, thing),))


def with_changed(shelf, name, thing):
    """The shelf with a thing in the place of the one under this name."""
    place = shelf.names.index(name)
    return shelf_of(shelf.names, shelf.things[:place] + ((name, thing),) + shelf.things[place + 1:])


def without_thing(shelf, name):
    """The shelf without the thing under this name."""
    place = shelf.names.index(name)
    return shelf_of(shelf.names[:place] + shelf.names[place + 1:], shelf.things[:place] + shelf.things[place + 1:])


def kept_as(shelf, name):
    """What `restored` needs of a name ahead of a line: the name, its place and its thing, or None, None."""
    if name not in shelf.names:
        return name, None, None
    place = shelf.names.index(name)
    return name, place, shelf.things[place][1]


def restored(shelf, kept):
    """The shelf ahead of a line that put in, changed or took out the thing under one name."""
    name, place, thing = kept
    if place is None:
        return without_thing(shelf, name)
    if name in shelf.names:
        return with_changed(shelf, name, thing)
    names = shelf.names[:place] + (name,) + shelf.names[place:]
    return shelf_of(names, shelf.things[:place] + ((name, thing),) + shelf.things[place:])


def need_shelf(value):
    """Raises BadDesk for what is no Shelf."""
    if not isinstance(value, Shelf):
        raise BadDesk("shelf")


def things_named(shelf, told):
    """The list of the things of which a line that was read speaks."""
    things = [thing_of(shelf, name) for name in names_in(told)]
    kinds = [kind_of(thing) for thing in things]
    for kind in kinds:
        if kind not in KINDS[told[0]] or kind != kinds[0]:
            raise Misfit("kinds")
    new = new_name(told)
    if new is not None and new in shelf.names:
        raise Twice(new)
    return things
