"""What probes do not hear."""

from spanalike.basics import need_divisor, need_many
from spanalike.checks import divisors_of
from spanalike.flats import primes_of
from spanalike.rows import Row, need_listed, need_one_ring
from spanalike.shares import is_silent


def need_probes(probes):
    """Raises what is wrong with a list of probes of one ring."""
    need_listed(probes, "probes", 8)
    need_one_ring(probes)


def numbers_of_divisor(many, divisor):
    """The list of the numbers of the row of a divisor."""
    numbers = [1 if beat % divisor == 0 else 0 for beat in range(many)]
    for prime in primes_of(divisor):
        turn = divisor // prime
        numbers = [number - numbers[beat - turn] for beat, number in enumerate(numbers)]
    return numbers


def two_lots(many, divisor):
    """The pair of the two lots of a divisor, which probes that are silent there hear alike."""
    need_many(many)
    need_divisor(many, divisor)
    numbers = numbers_of_divisor(many, divisor)
    above = Row([1 if number > 0 else 0 for number in numbers])
    below = Row([1 if number < 0 else 0 for number in numbers])
    return above, below


def are_silent(probes, divisor):
    """Whether all probes are silent at a divisor of their ring."""
    return all([is_silent(probe, divisor) for probe in probes])


def deaf_divisors(probes):
    """The ascending tuple of the divisors at which all probes are silent."""
    need_probes(probes)
    return tuple([divisor for divisor in divisors_of(probes[0].many) if are_silent(probes, divisor)])
