"""What probes hear of lots, and whether they tell all lots."""

from spanalike.basics import choices_below
from spanalike.checks import divisors_of
from spanalike.deaf import need_probes, two_lots
from spanalike.errors import Impossible
from spanalike.papers import Denial, Paper
from spanalike.rows import need_listed, need_lot, need_one_ring, need_row
from spanalike.shares import is_silent
from spanalike.spans import cross_spans


class TellsAll(Paper):
    """For each divisor of the ring the number of a probe that is not silent there."""

    def __init__(self, numbers):
        Paper.__init__(self, "tellsall", numbers)
        self.numbers = self.parts[0]


class Deaf(Denial):
    """A divisor at which all probes are silent, and two unlike lots that they hear alike."""

    def __init__(self, divisor, one, other):
        Denial.__init__(self, "deaf", divisor, one, other)
        self.divisor = self.parts[0]
        self.one = self.parts[1]
        self.other = self.parts[2]


def heard(probe, lot):
    """The tuple of what a probe hears of a lot."""
    need_row(probe, "probe")
    need_lot(lot, "lot")
    return cross_spans(probe, lot)


def first_parted(probes, one, other):
    """The pair (number, beat) of the first probe, and beat, at which two rows are heard unlike.

    It is None if there is none.
    """
    for number, probe in enumerate(probes):
        its = cross_spans(probe, other)
        for beat, here in enumerate(cross_spans(probe, one)):
            if here != its[beat]:
                return (number, beat)
    return None


def parted_by(probes, one, other):
    """None if the probes hear two lots alike, otherwise the first probe and beat that do not."""
    need_listed(probes, "probes", 8)
    need_lot(one, "one")
    need_lot(other, "other")
    need_one_ring(list(probes) + [one, other])
    return first_parted(probes, one, other)


def hearing(probes):
    """For each divisor of the ring, ascending, the list of the numbers of the probes not silent there."""
    return [
        [number for number, probe in enumerate(probes) if not is_silent(probe, divisor)]
        for divisor in divisors_of(probes[0].many)
    ]


def tells_all(probes):
    """For each divisor the first probe that is not silent there, or two lots that are heard alike."""
    need_probes(probes)
    many = probes[0].many
    ears = hearing(probes)
    for divisor, numbers in zip(divisors_of(many), ears):
        if not numbers:
            one, other = two_lots(many, divisor)
            return Deaf(divisor, one, other)
    return TellsAll([numbers[0] for numbers in ears])


def holds_one(chosen, numbers):
    """Whether one of the numbers at least is chosen."""
    return any([number in chosen for number in numbers])


def fewest_probes(probes):
    """The least tuple of the numbers of fewest probes that tell all."""
    word = tells_all(probes)
    if not word:
        raise Impossible(word)
    ears = hearing(probes)
    for count in range(1, len(probes)):
        for chosen in choices_below(len(probes), count):
            if all([holds_one(chosen, numbers) for numbers in ears]):
                return chosen
    return tuple(range(len(probes)))
