"""Bridges: rows of integers that lead to what sounds alike."""

from spanalike.basics import need_divisor, need_many, reduced
from spanalike.checks import are_integers, first_twice, is_listed, is_within
from spanalike.errors import BadNumber, BadPaper, Misfit, Twice
from spanalike.papers import Paper
from spanalike.rows import Row, need_row, ring_product
from spanalike.shares import share_numbers
from spanalike.spans import spans


class Bridge(Paper):
    """Integers for the beats, and one above 0."""

    def __init__(self, numbers, by):
        Paper.__init__(self, "bridge", numbers, by)
        self.numbers = self.parts[0]
        self.by = self.parts[1]


def is_bridge(numbers, by):
    """Whether any numbers and any by are a bridge."""
    if not are_integers(numbers) or not 2 <= len(numbers) <= 24 or not is_within(by, 1, None):
        return False
    if reduced(numbers, by)[1] != by:
        return False
    found = spans(Row(numbers))
    return found[0] == by * by and not any(found[1:])


def is_right_bridge(value):
    """Whether any value is a Bridge that is right."""
    return type(value) is Bridge and is_bridge(value.numbers, value.by)


def need_bridge(value, part):
    """Raises BadPaper for what is no right Bridge."""
    if not is_right_bridge(value):
        raise BadPaper(part)


def joined_bridges(one, other):
    """The bridge that leads as one and behind it other."""
    need_bridge(one, "one")
    need_bridge(other, "other")
    if len(one.numbers) != len(other.numbers):
        raise Misfit("beats")
    numbers, by = reduced(ring_product(one.numbers, other.numbers), one.by * other.by)
    return Bridge(numbers, by)


def undone_bridge(bridge):
    """The bridge that leads back."""
    need_bridge(bridge, "bridge")
    return Bridge(Row(bridge.numbers).mirrored().numbers, bridge.by)


def flip_bridge(many, divisors):
    """The bridge that flips these divisors."""
    need_many(many)
    if not is_listed(divisors):
        raise BadNumber("divisors")
    for divisor in divisors:
        need_divisor(many, divisor)
    again = first_twice(divisors)
    if again is not None:
        raise Twice(again)
    # all share rows add up to many times the one mark, so a flip takes two of these away
    numbers = [many] + [0] * (many - 1)
    for divisor in divisors:
        numbers = [mine - 2 * its for mine, its in zip(numbers, share_numbers(divisor, many))]
    numbers, by = reduced(numbers, many)
    return Bridge(numbers, by)


def row_led(row, bridge):
    """The row to which a right bridge of its ring leads from a row, None if there is none."""
    numbers = ring_product(row.numbers, bridge.numbers)
    if any([number % bridge.by for number in numbers]):
        return None
    return Row([number // bridge.by for number in numbers])


def led(row, bridge):
    """The row to which a bridge leads from a row, None if there is none."""
    need_row(row, "row")
    need_bridge(bridge, "bridge")
    if row.many != len(bridge.numbers):
        raise Misfit("beats")
    return row_led(row, bridge)
