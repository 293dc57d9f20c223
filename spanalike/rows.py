"""Rows of integers on a ring, and lots of marks among them."""

from math import gcd

from spanalike.basics import leading_integers, need_many, written
from spanalike.checks import are_integers, first_twice, is_integer, is_listed, is_within
from spanalike.errors import BadNumber, BadRow, BadText, Misfit, NoBeat, Twice


def need_row(value, part):
    """Raises BadRow for what is no Row."""
    if not isinstance(value, Row):
        raise BadRow(part)


def need_lot(value, part):
    """Raises BadRow for what is no Row that is a lot."""
    if not isinstance(value, Row) or not value.is_lot:
        raise BadRow(part)


def need_marked_lot(value, part):
    """Raises BadRow for what is no Row that is a lot with a mark at least."""
    need_lot(value, part)
    if value.total == 0:
        raise BadRow(part)


def need_listed(values, part, most):
    """Raises BadRow for what is no list of one Row or more, so many at most."""
    if not is_listed(values) or not 1 <= len(values) <= most:
        raise BadRow(part)
    for value in values:
        need_row(value, part)


def need_same_beats(one, other):
    """Raises Misfit for rows of rings that do not have as many beats."""
    if one.many != other.many:
        raise Misfit("beats")


def need_one_ring(rows):
    """Raises Misfit for a list of rows that are not all of rings of as many beats."""
    for row in rows:
        need_same_beats(rows[0], row)


def need_rows(one, other):
    """Raises what is wrong with the arguments one and other, two rows of one ring."""
    need_row(one, "one")
    need_row(other, "other")
    need_same_beats(one, other)


def ring_product(one, other):
    """The list of the numbers of a product: one and other are as many numbers round a ring."""
    many = len(one)
    numbers = [0] * many
    for beat, number in enumerate(one):
        if number != 0:
            for behind in range(many):
                numbers[(beat + behind) % many] += number * other[behind]
    return numbers


class Row:
    """An integer for each beat of a ring."""

    def __init__(self, numbers):
        if not are_integers(numbers) or not 2 <= len(numbers) <= 24:
            raise BadRow("numbers")
        self.numbers = tuple(numbers)
        self.many = len(self.numbers)
        self.total = sum(self.numbers)
        self.marks = tuple([beat for beat, number in enumerate(self.numbers) if number != 0])
        self.is_lot = all([self.numbers[beat] == 1 for beat in self.marks])

    def __len__(self):
        return len(self.numbers)

    def __eq__(self, other):
        return isinstance(other, Row) and self.numbers == other.numbers

    def __str__(self):
        return " ".join([written(number) for number in self.numbers])

    def at(self, beat):
        """The number at any beat, also beyond many and below 0."""
        if not is_integer(beat):
            raise BadNumber("beat")
        return self.numbers[beat % self.many]

    def turned(self, by):
        """The row with the number of beat i at beat i + by."""
        if not is_integer(by):
            raise BadNumber("by")
        start = self.many - by % self.many
        return Row(self.numbers[start:] + self.numbers[:start])

    def mirrored(self):
        """The row with the number of beat i at beat -i."""
        return Row(self.numbers[:1] + self.numbers[:0:-1])

    def stretched(self, by):
        """The row with the number of beat i at beat by times i."""
        if not is_within(by, 1, self.many - 1) or gcd(by, self.many) != 1:
            raise BadNumber("by")
        numbers = [0] * self.many
        for beat, number in enumerate(self.numbers):
            numbers[beat * by % self.many] = number
        return Row(numbers)

    def left_out(self):
        """The row with 1 at each beat, less the number there."""
        return Row([1 - number for number in self.numbers])

    def times(self, number):
        """The row with each number taken so many times."""
        if not is_integer(number):
            raise BadNumber("number")
        return Row([mine * number for mine in self.numbers])

    def added(self, other):
        """The sum of both rows, beat by beat."""
        need_row(other, "other")
        need_same_beats(self, other)
        return Row([mine + its for mine, its in zip(self.numbers, other.numbers)])

    def product(self, other):
        """The product of both rows."""
        need_row(other, "other")
        need_same_beats(self, other)
        return Row(ring_product(self.numbers, other.numbers))

    @staticmethod
    def one_mark(many):
        """The lot of a ring that marks beat 0 alone."""
        need_many(many)
        return Row([1] + [0] * (many - 1))

    @staticmethod
    def of(many, marks):
        """The lot of a ring with these marks."""
        need_many(many)
        if not is_listed(marks):
            raise BadRow("marks")
        for beat in marks:
            if not is_within(beat, 0, many - 1):
                raise NoBeat(beat)
        again = first_twice(marks)
        if again is not None:
            raise Twice(again)
        return Row([1 if beat in marks else 0 for beat in range(many)])

    @staticmethod
    def read(text):
        """The row whose text this is."""
        numbers, behind = leading_integers(text, 24)
        if behind is not None:
            raise BadText(0, behind)
        if len(numbers) < 2:
            raise BadText(0, len(numbers))
        return Row(numbers)
