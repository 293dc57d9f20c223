"""Books: what is said of one unseen lot of a ring."""

from spanalike.basics import integer_at, need_integer, need_item
from spanalike.checks import are_integers, first_twice, is_listed, is_within
from spanalike.errors import BadBook, BadNumber, BadSaying, BadText, Misfit, NoSaying, TooMany, Twice
from spanalike.rows import need_lot, need_same_beats
from spanalike.sayings import is_saying, saying_at


def need_book(value):
    """Raises BadBook for what is no Book."""
    if not isinstance(value, Book):
        raise BadBook("book")


def need_saying(value):
    """Raises BadSaying for what is no saying."""
    if not is_saying(value):
        raise BadSaying("saying")


def need_fit(saying, many):
    """Raises Misfit for a saying that does not fit a ring."""
    if not saying.fits(many):
        raise Misfit("beats")


def sayings_read(items, many):
    """The list of the sayings of a book that a text tells behind its many and the colon."""
    first, index = saying_at(items, 2, many)
    sayings = [first]
    while index < len(items):
        if items[index] != "/" or len(sayings) == 10:
            raise BadText(0, index)
        saying, index = saying_at(items, index + 1, many)
        sayings.append(saying)
    return sayings


class Book:
    """A ring, and sayings that fit it, numbered from 0."""

    def __init__(self, many, sayings=()):
        need_integer(many, "many", 2, 12)
        if not is_listed(sayings) or not all([is_saying(saying) for saying in sayings]):
            raise BadSaying("sayings")
        for saying in sayings:
            need_fit(saying, many)
        if len(sayings) > 10:
            raise TooMany("sayings", 10)
        self.many = many
        self.sayings = tuple(sayings)

    def __len__(self):
        return len(self.sayings)

    def __eq__(self, other):
        return isinstance(other, Book) and self.many == other.many and self.sayings == other.sayings

    def __str__(self):
        if len(self.sayings) == 0:
            return f"{self.many} : -"
        told = " / ".join([str(saying) for saying in self.sayings])
        return f"{self.many} : {told}"

    def with_saying(self, saying):
        """The book with this saying behind the others."""
        need_saying(saying)
        return Book(self.many, self.sayings + (saying,))

    def without(self, numbers):
        """The book without the sayings with these numbers."""
        if not are_integers(numbers):
            raise BadNumber("numbers")
        for number in numbers:
            if not is_within(number, 0, len(self.sayings) - 1):
                raise NoSaying(number)
        again = first_twice(numbers)
        if again is not None:
            raise Twice(again)
        return Book(self.many, [saying for number, saying in enumerate(self.sayings) if number not in numbers])

    def keeps(self, lot):
        """Whether a lot keeps all sayings."""
        return self.first_broken(lot) is None

    def first_broken(self, lot):
        """The least number of a saying that a lot does not keep, None if there is none."""
        need_lot(lot, "lot")
        need_same_beats(self, lot)
        for number, saying in enumerate(self.sayings):
            if not saying.keeps(lot):
                return number
        return None

    @staticmethod
    def read(text):
        """The book whose text this is."""
        if not isinstance(text, str):
            raise BadText(0, 0)
        items = text.split(" ")
        many = integer_at(items, 0, 2, 12)
        need_item(items, 1)
        if items[1] != ":":
            raise BadText(0, 1)
        need_item(items, 2)
        if items[2] != "-":
            return Book(many, sayings_read(items, many))
        if len(items) > 3:
            raise BadText(0, 3)
        return Book(many)
