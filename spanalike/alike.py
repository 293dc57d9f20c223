"""Whether two rows are alike: the bridge between them."""

from spanalike.basics import reduced
from spanalike.bridges import Bridge
from spanalike.papers import Denial
from spanalike.quotients import quotient
from spanalike.rows import need_rows
from spanalike.shares import share_numbers, silent_divisors
from spanalike.spans import spans


class UnlikeSpan(Denial):
    """A beat at which the spans of two rows differ."""

    def __init__(self, beat):
        Denial.__init__(self, "unlikespan", beat)
        self.beat = self.parts[0]


def the_bridge(one, other):
    """The bridge from a row to one with the same spans.

    At the divisors at which one is silent it takes the shares of the one mark.
    """
    found = quotient(other, one)
    many = one.many
    numbers = [number * many for number in found.numbers]
    for divisor in silent_divisors(one):
        its = share_numbers(divisor, many)
        numbers = [number + found.by * its[beat] for beat, number in enumerate(numbers)]
    numbers, by = reduced(numbers, found.by * many)
    return Bridge(numbers, by)


def alike(one, other):
    """The bridge from one row to the other, or the least beat at which their spans differ."""
    need_rows(one, other)
    its = spans(other)
    for beat, span in enumerate(spans(one)):
        if span != its[beat]:
            return UnlikeSpan(beat)
    return the_bridge(one, other)
