"""The lots of which probes hear what is told."""

from spanalike.basics import need_at_most
from spanalike.checks import are_integers, is_listed
from spanalike.deaf import need_probes
from spanalike.errors import BadNumber, Impossible, TooMany
from spanalike.families import marks_of
from spanalike.judged import all_signs
from spanalike.numbered import lot_of_signs
from spanalike.papers import Paper
from spanalike.probes import tells_all
from spanalike.quotients import quotient
from spanalike.rows import Row, need_row, ring_product


class Undoing(Paper):
    """Integers for the beats, and one from 1 on: what is heard by these is the lot times by."""

    def __init__(self, numbers, by):
        Paper.__init__(self, "undoing", numbers, by)
        self.numbers = self.parts[0]
        self.by = self.parts[1]


def undoing(probe):
    """What undoes a probe that is silent nowhere."""
    need_row(probe, "probe")
    word = tells_all([probe])
    if not word:
        raise Impossible(word)
    found = quotient(Row.one_mark(probe.many), probe.mirrored())
    return Undoing(found.numbers, found.by)


def heard_from(probe, numbers):
    """The lot of which a probe that is silent nowhere hears these numbers, None if there is none."""
    need_row(probe, "probe")
    if not are_integers(numbers) or len(numbers) != probe.many:
        raise BadNumber("numbers")
    undone = undoing(probe)
    found = ring_product(undone.numbers, numbers)
    if not all([number in (0, undone.by) for number in found]):
        return None
    return Row([number // undone.by for number in found])


def are_rows_told(many, count, rows):
    """Whether any value is a list of so many rows, each of as many integers as there are beats."""
    if not is_listed(rows) or len(rows) != count:
        return False
    return all([are_integers(row) and len(row) == many for row in rows])


def need_told(probes, rows):
    """Raises what is wrong with probes, or with what they are told to hear."""
    need_probes(probes)
    if not are_rows_told(probes[0].many, len(probes), rows):
        raise BadNumber("rows")
    need_at_most(probes[0].many, 12)


def sums_of_marks(weights):
    """For each lot of a ring, in the order of all_signs, the sum of what its marks weigh."""
    sums = [0]
    for weight in weights[::-1]:
        sums = sums + [number + weight for number in sums]
    return sums


def signs_heard(probes, rows):
    """The list of the lots of which each probe hears its row, told as integers."""
    lots = all_signs(probes[0].many)
    for probe, row in zip(probes, rows):
        for beat, number in enumerate(row):
            sums = sums_of_marks(probe.turned(beat).numbers)
            lots = [lot for lot in lots if sums[lot] == number]
    return lots


def lots_heard(probes, rows):
    """The ascending tuple of all lots of which each probe hears the row with its number."""
    need_told(probes, rows)
    many = probes[0].many
    lots = signs_heard(probes, rows)
    if len(lots) > 500:
        raise TooMany("lots", 500)
    return tuple(sorted([lot_of_signs(many, lot) for lot in lots], key=marks_of))


def many_heard(probes, rows):
    """How many lots there are of which each probe hears the row with its number."""
    need_told(probes, rows)
    return len(signs_heard(probes, rows))
