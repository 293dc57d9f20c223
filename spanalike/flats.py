"""Flat lots, and how stretching turns them."""

from spanalike.checks import divisors_of
from spanalike.classes import turn_to
from spanalike.errors import Impossible
from spanalike.papers import Denial, Paper
from spanalike.rows import need_lot
from spanalike.spans import spans


class Flat(Paper):
    """All spans of a lot, but that at 0, are this number."""

    def __init__(self, number):
        Paper.__init__(self, "flat", number)
        self.number = self.parts[0]


class Bent(Denial):
    """Two distances, one the lesser, at which the spans of a lot are unlike."""

    def __init__(self, one, other):
        Denial.__init__(self, "bent", one, other)
        self.one = self.parts[0]
        self.other = self.parts[1]


def flat_word(lot):
    """The number of a flat lot, or the least pair of distances that denies that it is flat."""
    need_lot(lot, "lot")
    found = spans(lot)
    for distance in range(2, lot.many // 2 + 1):
        if found[distance] != found[1]:
            return Bent(1, distance)
    return Flat(found[1])


def primes_of(number):
    """The ascending list of the primes that divide an integer from 1 on."""
    return [divisor for divisor in divisors_of(number) if len(divisors_of(divisor)) == 2]


def hall_turns(lot):
    """For each prime by which a flat lot can be stretched into a turned form, the least turn."""
    word = flat_word(lot)
    if not word:
        raise Impossible(word)
    number = word.number
    if lot.total == number:
        return ()
    primes = [prime for prime in primes_of(lot.total - number) if prime > number and lot.many % prime != 0]
    return tuple([(prime, turn_to(lot, lot.stretched(prime % lot.many))) for prime in primes])
