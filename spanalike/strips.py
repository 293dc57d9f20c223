"""Strips of integers on a line, and lots of marks among them."""

from spanalike.basics import leading_integers, written
from spanalike.checks import are_integers, first_twice, is_integer
from spanalike.errors import BadNumber, BadStrip, BadText, TooMany, Twice


def need_strip(value, part):
    """Raises BadStrip for what is no Strip."""
    if not isinstance(value, Strip):
        raise BadStrip(part)


class Strip:
    """An integer for each beat of a line, the first and the last not 0."""

    def __init__(self, numbers):
        if not are_integers(numbers) or len(numbers) == 0 or numbers[0] == 0 or numbers[-1] == 0:
            raise BadStrip("numbers")
        if len(numbers) > 41:
            raise TooMany("length", 40)
        self.numbers = tuple(numbers)
        self.length = len(self.numbers) - 1
        self.total = sum(self.numbers)
        self.marks = tuple([beat for beat, number in enumerate(self.numbers) if number != 0])
        self.is_lot = all([self.numbers[beat] == 1 for beat in self.marks])

    def __eq__(self, other):
        return isinstance(other, Strip) and self.numbers == other.numbers

    def __str__(self):
        return " ".join([written(number) for number in self.numbers])

    def at(self, beat):
        """The number at any integer, 0 beyond the strip."""
        if not is_integer(beat):
            raise BadNumber("beat")
        return self.numbers[beat] if 0 <= beat <= self.length else 0

    def backward(self):
        """The strip reversed."""
        return Strip(self.numbers[::-1])

    def times(self, number):
        """The strip with each number taken so many times, not 0 times."""
        if not is_integer(number) or number == 0:
            raise BadNumber("number")
        return Strip([mine * number for mine in self.numbers])

    def product(self, other):
        """The product of both strips."""
        need_strip(other, "other")
        numbers = [0] * (self.length + other.length + 1)
        for beat in self.marks:
            for behind in other.marks:
                numbers[beat + behind] += self.numbers[beat] * other.numbers[behind]
        return Strip(numbers)

    @staticmethod
    def of(marks):
        """The lot on a line with marks so far from each other."""
        if not are_integers(marks) or len(marks) == 0:
            raise BadStrip("marks")
        again = first_twice(marks)
        if again is not None:
            raise Twice(again)
        least = min(marks)
        length = max(marks) - least
        if length > 40:
            raise TooMany("length", 40)
        return Strip([1 if beat + least in marks else 0 for beat in range(length + 1)])

    @staticmethod
    def read(text):
        """The strip whose text this is."""
        numbers, behind = leading_integers(text, 41)
        if numbers and numbers[0] == 0:
            raise BadText(0, 0)
        # behind a 41st number nothing can stand, so 0 cannot be this one
        if len(numbers) == 41 and numbers[-1] == 0:
            raise BadText(0, 40)
        if behind is not None:
            raise BadText(0, behind)
        if numbers[-1] == 0:
            raise BadText(0, len(numbers) - 1)
        return Strip(numbers)


def strip_spans(strip):
    """The tuple of the spans of a strip, from 0 to its length."""
    need_strip(strip, "strip")
    numbers = strip.numbers
    return tuple([
        sum([number * its for number, its in zip(numbers, numbers[distance:])])
        for distance in range(strip.length + 1)
    ])


def strip_distances(lot):
    """The tuple of the distances of a lot on a line, from 1 on."""
    need_strip(lot, "lot")
    if not lot.is_lot:
        raise BadStrip("lot")
    return strip_spans(lot)[1:]
