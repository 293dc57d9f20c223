"""What numbers on a line make of themselves round a ring."""

from spanalike.basics import need_many
from spanalike.checks import are_integers
from spanalike.errors import BadNumber
from spanalike.rows import Row


def need_line(numbers, part):
    """Raises BadNumber for what is no list of 1 to 41 integers."""
    if not are_integers(numbers) or not 1 <= len(numbers) <= 41:
        raise BadNumber(part)


def folded(numbers, many):
    """The row with the sum of the numbers at each beat's place, and each many places on."""
    need_line(numbers, "numbers")
    need_many(many)
    return Row([sum(numbers[beat::many]) for beat in range(many)])


def folded_spans(told, many):
    """The spans round a ring of numbers whose spans on a line are told."""
    need_line(told, "told")
    need_many(many)
    found = [0] * many
    for distance, span in enumerate(told):
        found[distance % many] += span
        if distance > 0:
            found[-distance % many] += span
    return tuple(found)
