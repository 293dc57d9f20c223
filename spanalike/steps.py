"""Steps from mark to mark round a ring, and lots that a step makes."""

from spanalike.basics import need_integer, need_many
from spanalike.rows import Row, need_marked_lot


def lengths_of(lot, number):
    """The list of the lengths of so many steps, the size of the lot at most, from each mark."""
    size = lot.total
    laps = lot.marks + tuple([mark + lot.many for mark in lot.marks])
    return [laps[index + number] - laps[index] for index in range(size)]


def steps(lot):
    """The tuple of the lengths of one step from each mark."""
    need_marked_lot(lot, "lot")
    return tuple(lengths_of(lot, 1))


def step_lengths(lot, number):
    """The ascending tuple of the unlike lengths of so many steps."""
    need_marked_lot(lot, "lot")
    need_integer(number, "number", 1, lot.total)
    return tuple(sorted(set(lengths_of(lot, number))))


def uneven_steps(lot):
    """The least number of steps of which two lengths differ by more than one, None if there is none."""
    need_marked_lot(lot, "lot")
    for number in range(1, lot.total + 1):
        lengths = lengths_of(lot, number)
        if max(lengths) - min(lengths) > 1:
            return number
    return None


def beats_made(many, start, step, size):
    """The list of so many beats of a ring, a step behind one another."""
    return [(start + index * step) % many for index in range(size)]


def made(many, step, size):
    """The lot that a step makes from beat 0 on."""
    need_many(many)
    need_integer(step, "step", 1, many - 1)
    need_integer(size, "size", 1, many)
    return Row.of(many, beats_made(many, 0, step, size))


def is_made(lot, step):
    """Whether a step makes a lot, from any of its marks on."""
    made_ones = [beats_made(lot.many, start, step, lot.total) for start in lot.marks]
    return any([tuple(sorted(beats)) == lot.marks for beats in made_ones])


def makers(lot):
    """The ascending tuple of all steps that make a lot."""
    need_marked_lot(lot, "lot")
    return tuple([step for step in range(1, lot.many) if is_made(lot, step)])
