"""Share rows, shares, and the divisors at which a row is silent."""

from math import gcd

from spanalike.basics import need_divisor, need_many
from spanalike.checks import divisors_of
from spanalike.rows import Row, need_row, ring_product
from spanalike.spans import spans


def mu_of(number):
    """1 for 1, 1 or -1 for a product of different primes, 0 for another integer from 1 on."""
    sign = 1
    rest = number
    for prime in range(2, number + 1):
        if rest % prime == 0:
            rest = rest // prime
            sign = -sign
            if rest % prime == 0:
                return 0
    return sign


def share_number(divisor, beat):
    """The number of the share row of a divisor at a beat."""
    common = gcd(divisor, beat)
    return sum([mu_of(divisor // part) * part for part in divisors_of(common)])


def share_numbers(divisor, many):
    """The list of the first numbers of the share row of a divisor, so many."""
    period = [share_number(divisor, beat) for beat in range(divisor)]
    return [period[beat % divisor] for beat in range(many)]


def laid(numbers, divisor):
    """The list of what numbers make when they are laid round a ring of so many beats as divisor."""
    return [sum(numbers[beat::divisor]) for beat in range(divisor)]


def share_at(numbers, divisor):
    """The list of the first numbers of a row's share at a divisor, as many as this tells.

    A share comes again each so many beats; so a row laid round these few beats is enough.
    """
    return ring_product(share_numbers(divisor, divisor), laid(numbers, divisor))


def is_silent(row, divisor):
    """Whether a row is silent at a divisor of its ring."""
    return not any(share_at(row.numbers, divisor))


def number_told(spans_told, divisor):
    """The number of a divisor, of any spans."""
    numbers = share_numbers(divisor, len(spans_told))
    return sum([span * number for span, number in zip(spans_told, numbers)])


def share_row(many, divisor):
    """The share row of a divisor of a ring."""
    need_many(many)
    need_divisor(many, divisor)
    return Row(share_numbers(divisor, many))


def share(row, divisor):
    """The share of a row at a divisor of its ring."""
    need_row(row, "row")
    return row.product(share_row(row.many, divisor))


def silent_divisors(row):
    """The ascending tuple of the divisors at which a row is silent."""
    need_row(row, "row")
    return tuple([divisor for divisor in divisors_of(row.many) if is_silent(row, divisor)])


def loud_at(row, divisor):
    """The number of a divisor, of the spans of a row."""
    need_row(row, "row")
    need_divisor(row.many, divisor)
    return number_told(spans(row), divisor)
