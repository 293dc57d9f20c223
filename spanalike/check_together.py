"""Whether papers on lots that are flat together, and on strips that hush, are right."""

from spanalike.check_flats import are_unlike
from spanalike.checks import is_integer, is_within
from spanalike.hushed import Hush, HushBar, Loud, barring_primes, hush_bar, need_beats, need_strips, spans_of_both
from spanalike.together import BentTogether, FlatTogether, TogetherBar, need_lots, spans_added, together_bar
from spanalike.together import word_together


def shows_together(lots, value):
    """Whether a value is the FlatTogether, or a BentTogether of any two distances that deny it."""
    need_lots(lots)
    if type(value) is FlatTogether:
        word = word_together(lots)
        return type(word) is FlatTogether and is_integer(value.number) and value.number == word.number
    if type(value) is BentTogether:
        return are_unlike(spans_added(lots), lots[0].many // 2, value.one, value.other)
    return False


def shows_together_bar(many, sizes, value):
    """Whether a value is None and there is no bar, or is a bar of these sizes.

    There is no second one: only if the count is right there is a common span to ask for squares.
    """
    bar = together_bar(many, sizes)
    if value is None or bar is None:
        return value is None and bar is None
    if type(value) is not TogetherBar or not isinstance(value.kind, str) or not is_integer(value.number):
        return False
    return value.kind == bar.kind and value.number == bar.number


def shows_hushed(one, other, value):
    """Whether a value is the Hush, or a Loud of any distance that denies it."""
    need_strips(one, other)
    told = spans_of_both(one, other)
    if type(value) is Hush:
        return not any(told[1:]) and is_integer(value.number) and value.number == told[0]
    if type(value) is Loud:
        return is_within(value.distance, 1, one.length) and told[value.distance] != 0
    return False


def shows_hush_bar(beats, value):
    """Whether a value is None and there is no bar, or is any bar of so many numbers."""
    need_beats(beats)
    if value is None:
        return hush_bar(beats) is None
    if type(value) is not HushBar or not isinstance(value.kind, str) or not is_integer(value.number):
        return False
    if value.kind == "odd":
        return value.number == beats and beats > 1 and beats % 2 == 1
    return value.kind == "squares" and value.number in barring_primes(beats)
