"""What bars counts that are told for a lot, and lots that have them."""

from math import isqrt

from spanalike.basics import need_at_most, need_divisor
from spanalike.checks import divisors_of
from spanalike.papers import Denial, Paper
from spanalike.rows import Row
from spanalike.shares import number_told
from spanalike.spans import need_counts

KINDS = ("share", "square", "triangle", "squares")


class CountsBar(Denial):
    """No lot has the counts: a sum, or the number of a divisor, cannot be."""

    def __init__(self, kind, number):
        Denial.__init__(self, "countsbar", kind, number)
        self.kind = self.parts[0]
        self.number = self.parts[1]


class NoLot(Denial):
    """No lot has the counts, by going through all."""

    def __init__(self):
        Denial.__init__(self, "nolot")


class HasLot(Paper):
    """A lot that has the counts."""

    def __init__(self, lot):
        Paper.__init__(self, "haslot", lot)
        self.lot = self.parts[0]


def pairs_of(size):
    """How many pairs there are of so many marks."""
    return size * (size - 1) // 2


def spans_told(many, size, counts):
    """The list of the spans that go with the counts told for a lot of this size."""
    found = [size] + [0] * (many - 1)
    for index, count in enumerate(counts):
        found[index + 1] += count
        found[many - index - 1] += count
    return found


def number_at(many, size, counts, divisor):
    """The number of a divisor, of the spans told."""
    need_counts(many, size, counts)
    need_divisor(many, divisor)
    return number_told(spans_told(many, size, counts), divisor)


def is_square(number):
    """Whether an integer is a square."""
    return number >= 0 and isqrt(number) * isqrt(number) == number


def is_triangle(number):
    """Whether an integer from 0 on is m m + m n + n n for some integers m and n.

    Then it is so for some m and n from 0 on, n not the greater one. Four times the integer,
    less 3 n n, is the square of 2 m + n.
    """
    for lesser in range(isqrt(number // 3) + 1):
        if is_square(4 * number - 3 * lesser * lesser):
            return True
    return False


def is_two_squares(number):
    """Whether an integer from 0 on is a sum of two squares."""
    for root in range(isqrt(number // 2) + 1):
        if is_square(number - root * root):
            return True
    return False


def is_barred(kind, divisor, number):
    """Whether there is a bar of this kind at a divisor with this number of the spans told."""
    if kind == "share":
        return number < 0
    if kind == "square":
        return divisor == 2 and not is_square(number)
    if kind == "triangle":
        return divisor in (3, 6) and (number < 0 or number % 2 != 0 or not is_triangle(number // 2))
    return divisor == 4 and (number < 0 or number % 2 != 0 or not is_two_squares(number // 2))


def counts_bar(many, size, counts):
    """None, or the first bar of counts that are told for a lot of this size."""
    need_counts(many, size, counts)
    if sum(counts) != pairs_of(size):
        return CountsBar("pairs", sum(counts))
    for divisor in divisors_of(many):
        number = number_at(many, size, counts, divisor)
        for kind in KINDS:
            if is_barred(kind, divisor, number):
                return CountsBar(kind, divisor)
    return None


def counts_left(many, marks, beat, counts):
    """The counts less the distances from the marks to a beat, None if one falls below 0."""
    left = list(counts)
    for mark in marks:
        index = min(beat - mark, many - beat + mark) - 1
        if left[index] == 0:
            return None
        left[index] -= 1
    return left


def add_marks(many, size, marks, counts, found):
    """Puts into found, ascending, the lots of this size that begin with the marks.

    Those alone whose further distances have just these counts.
    """
    more = size - len(marks)
    if more == 0:
        if not any(counts):
            found.append(marks)
        return
    for beat in range(marks[-1] + 1, many - more + 1):
        left = counts_left(many, marks, beat, counts)
        if left is not None:
            add_marks(many, size, marks + (beat,), left, found)


def marks_with_counts(many, size, counts):
    """The ascending list of the marks of all lots of this size with these counts.

    Those alone that mark beat 0; the others are turned from them. Of size 0 the empty one.
    """
    found = []
    if size == 0 and not any(counts):
        found.append(())
    if size > 0 and sum(counts) == pairs_of(size):
        add_marks(many, size, (0,), counts, found)
    return found


def some_lot(many, size, counts):
    """A lot of this size with these counts, or the denial that there is one."""
    need_counts(many, size, counts)
    need_at_most(many, 16)
    found = marks_with_counts(many, size, counts)
    if found:
        return HasLot(Row.of(many, found[0]))
    return NoLot()
