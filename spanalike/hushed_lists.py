"""All sign strips of few numbers that hush."""

from spanalike.basics import need_at_most, need_integer
from spanalike.hushed import alternated_strip
from spanalike.strips import Strip, strip_spans


def need_few_beats(beats):
    """Raises what is wrong with a number of beats of sign strips, 8 at most."""
    need_integer(beats, "beats", 1, None)
    need_at_most(beats, 8)


def sign_strips(beats):
    """The ascending list of all sign strips of so many numbers."""
    return [
        Strip([1 if (signs >> (beats - 1 - beat)) & 1 == 1 else -1 for beat in range(beats)])
        for signs in range(1 << beats)
    ]


def hushed_pairs(beats):
    """The ascending tuple of all ordered pairs of sign strips of so many numbers that hush."""
    need_few_beats(beats)
    strips = sign_strips(beats)
    by_spans = {}
    for strip in strips:
        by_spans.setdefault(strip_spans(strip)[1:], []).append(strip)
    pairs = []
    for one in strips:
        wanted = tuple([-span for span in strip_spans(one)[1:]])
        pairs.extend([(one, other) for other in by_spans.get(wanted, [])])
    return tuple(pairs)


def forms_of_strip(strip):
    """The list of the numbers of a strip, of it reversed, and of both times -1."""
    forms = [strip, strip.backward()]
    return [form.numbers for form in forms + [form.times(-1) for form in forms]]


def is_first(one, other):
    """Whether a pair of strips is the first one of all pairs that come of it.

    An alternated strip reversed is the reversed one alternated, or that times -1: so it is enough
    to alternate first, then to exchange, then to reverse and to take times -1.
    """
    numbers = (one.numbers, other.numbers)
    turned = (alternated_strip(one), alternated_strip(other))
    for here, there in ((one, other), (other, one), turned, turned[::-1]):
        if (min(forms_of_strip(here)), min(forms_of_strip(there))) < numbers:
            return False
    return True


def hushed_kinds(beats):
    """The ascending tuple of the first of all pairs that hush and come of one another."""
    return tuple([(one, other) for one, other in hushed_pairs(beats) if is_first(one, other)])
