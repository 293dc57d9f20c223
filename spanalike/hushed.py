"""Strips that hush: their spans, added up, are 0 at each distance."""

from spanalike.basics import need_integer
from spanalike.errors import BadStrip, Misfit
from spanalike.flats import primes_of
from spanalike.papers import Denial, Paper
from spanalike.rows import Row
from spanalike.strips import Strip, need_strip, strip_spans


class Hush(Paper):
    """The spans at 0 of two strips that hush, added up."""

    def __init__(self, number):
        Paper.__init__(self, "hush", number)
        self.number = self.parts[0]


class Loud(Denial):
    """A distance at which the spans of two strips, added up, are not 0."""

    def __init__(self, distance):
        Denial.__init__(self, "loud", distance)
        self.distance = self.parts[0]


class HushBar(Denial):
    """No two sign strips of so many numbers hush: by an odd number of them, or by a prime."""

    def __init__(self, kind, number):
        Denial.__init__(self, "hushbar", kind, number)
        self.kind = self.parts[0]
        self.number = self.parts[1]


def need_same_length(one, other):
    """Raises Misfit for strips of unlike lengths."""
    if one.length != other.length:
        raise Misfit("length")


def need_strips(one, other):
    """Raises what is wrong with the arguments one and other, two strips of one length."""
    need_strip(one, "one")
    need_strip(other, "other")
    need_same_length(one, other)


def spans_of_both(one, other):
    """The list of the spans of two strips of one length, added up, from 0 on."""
    return [here + there for here, there in zip(strip_spans(one), strip_spans(other))]


def hushed(one, other):
    """The spans at 0 of two strips that hush, added up, or the least distance that denies it."""
    need_strips(one, other)
    told = spans_of_both(one, other)
    for distance in range(1, len(told)):
        if told[distance] != 0:
            return Loud(distance)
    return Hush(told[0])


def need_beats(beats):
    """Raises BadNumber for what is no number of beats of sign strips that can be asked."""
    need_integer(beats, "beats", 1, 1000000)


def divides_oddly(prime, number):
    """Whether a prime divides an integer from 1 on an odd number of times."""
    times = 0
    rest = number
    while rest % prime == 0:
        rest = rest // prime
        times += 1
    return times % 2 == 1


def barring_primes(beats):
    """The ascending list of the primes for which no two sign strips of so many numbers hush."""
    return [prime for prime in primes_of(beats) if prime % 4 == 3 and divides_oddly(prime, beats)]


def hush_bar(beats):
    """None, or the first bar of two sign strips of so many numbers that hush."""
    need_beats(beats)
    if beats > 1 and beats % 2 == 1:
        return HushBar("odd", beats)
    primes = barring_primes(beats)
    return HushBar("squares", primes[0]) if primes else None


def negative(strip):
    """The numbers of a strip times -1, as a tuple."""
    return strip.times(-1).numbers


def behind(one, other):
    """The pair of one strip and then another one, and of the one and then the other times -1."""
    need_strips(one, other)
    return Strip(one.numbers + other.numbers), Strip(one.numbers + negative(other))


def by_turns(numbers, others):
    """The list of the numbers of two tuples, one of each by turns."""
    return [number for pair in zip(numbers, others) for number in pair]


def woven(one, other):
    """The pair of one strip by turns with another one, and with the other one times -1."""
    need_strips(one, other)
    return Strip(by_turns(one.numbers, other.numbers)), Strip(by_turns(one.numbers, negative(other)))


def alternated_strip(strip):
    """The strip with the numbers on odd beats times -1."""
    return Strip([-number if beat % 2 == 1 else number for beat, number in enumerate(strip.numbers)])


def alternated(one, other):
    """The pair of two strips, each with the numbers on odd beats times -1."""
    need_strips(one, other)
    return alternated_strip(one), alternated_strip(other)


def need_sign_strip(value, part):
    """Raises BadStrip for what is no strip of 2 to 24 numbers, each 1 or -1."""
    need_strip(value, part)
    if not 2 <= len(value.numbers) <= 24 or not all([number in (1, -1) for number in value.numbers]):
        raise BadStrip(part)


def ones_of(strip):
    """The lot of the ring with as many beats as a strip has numbers that marks the beats with 1."""
    return Row([1 if number == 1 else 0 for number in strip.numbers])


def ring_lots(one, other):
    """The pair of the lots that mark the beats with 1 of two sign strips."""
    need_sign_strip(one, "one")
    need_sign_strip(other, "other")
    need_same_length(one, other)
    return ones_of(one), ones_of(other)
