"""Whether papers on probes are right."""

from spanalike.basics import is_divisor
from spanalike.checks import are_integers, divisors_of, is_within
from spanalike.deaf import are_silent, need_probes
from spanalike.heard_lots import Undoing
from spanalike.probes import Deaf, TellsAll, first_parted
from spanalike.rows import Row, need_row, ring_product
from spanalike.shares import is_silent


def are_ears(probes, numbers):
    """Whether any value tells for each divisor the number of a probe that is not silent there."""
    told = divisors_of(probes[0].many)
    if not are_integers(numbers) or len(numbers) != len(told):
        return False
    if not all([is_within(number, 0, len(probes) - 1) for number in numbers]):
        return False
    return not any([is_silent(probes[number], divisor) for number, divisor in zip(numbers, told)])


def is_lot_of(many, value):
    """Whether any value is a lot of this ring."""
    return isinstance(value, Row) and value.is_lot and value.many == many


def is_deaf(probes, divisor, one, other):
    """Whether any values are a divisor at which probes are silent, and two lots that they do not part."""
    many = probes[0].many
    if not is_divisor(many, divisor) or not are_silent(probes, divisor):
        return False
    if not is_lot_of(many, one) or not is_lot_of(many, other) or one == other:
        return False
    return first_parted(probes, one, other) is None


def shows_tells(probes, value):
    """Whether a value is a TellsAll of any right numbers, or a Deaf of any right divisor and lots."""
    need_probes(probes)
    if type(value) is TellsAll:
        return are_ears(probes, value.numbers)
    if type(value) is Deaf:
        return is_deaf(probes, value.divisor, value.one, value.other)
    return False


def shows_undoing(probe, value):
    """Whether a value is an Undoing of a probe, with any common divisor."""
    need_row(probe, "probe")
    if type(value) is not Undoing or not is_within(value.by, 1, None):
        return False
    if not are_integers(value.numbers) or len(value.numbers) != probe.many:
        return False
    wanted = [value.by] + [0] * (probe.many - 1)
    return ring_product(probe.mirrored().numbers, value.numbers) == wanted
