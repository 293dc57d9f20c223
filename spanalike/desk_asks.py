"""What the ask lines of a desk answer."""

from spanalike.alike import alike
from spanalike.alike_strips import alike_strips
from spanalike.asking import idle_sayings, next_distance, quarrels
from spanalike.deep import deep_word
from spanalike.desk_deeds import numbers_line
from spanalike.desk_lines import ASKS, read_line_of
from spanalike.evens import even_word
from spanalike.families import alike_lots
from spanalike.flats import flat_word
from spanalike.hushed import hushed
from spanalike.judged import judged, many_kept
from spanalike.pieces import pieces
from spanalike.probes import heard, tells_all
from spanalike.rebuilt import telling_size
from spanalike.shares import silent_divisors
from spanalike.shelves import kind_of, need_shelf, things_named
from spanalike.spans import distances, spans
from spanalike.strips import strip_distances, strip_spans
from spanalike.together import flat_together


def say_names(shelf, told, things):
    """The names, in their order."""
    return " ".join(shelf.names) if len(shelf.names) > 0 else "-"


def say_show(shelf, told, things):
    """What a thing is, and its text."""
    return f"{kind_of(things[0])} {things[0]}"


def say_spans(shelf, told, things):
    """The spans of a row, or of a strip."""
    thing = things[0]
    return numbers_line(spans(thing) if kind_of(thing) == "row" else strip_spans(thing))


def say_counts(shelf, told, things):
    """The counts of a lot, or the distances of a lot on a line."""
    thing = things[0]
    return numbers_line(distances(thing) if kind_of(thing) == "row" else strip_distances(thing))


def say_alike(shelf, told, things):
    """Whether two rows, or two strips, are alike."""
    one, other = things
    found = alike(one, other) if kind_of(one) == "row" else alike_strips(one, other)
    return found.word


def say_kin(shelf, told, things):
    """How many lots the family of a lot has."""
    return str(len(alike_lots(things[0]).lots))


def say_silent(shelf, told, things):
    """The divisors at which a row is silent."""
    return numbers_line(silent_divisors(things[0]))


def piece_told(piece, times):
    """The beats of a piece with `+` between, and how often it comes."""
    beats = "+".join([str(beat) for beat in piece])
    return f"{beats}={times}"


def say_pieces(shelf, told, things):
    """The counts of pieces of a lot."""
    return " ".join([piece_told(piece, times) for piece, times in pieces(things[0], told[2])])


def say_told(shelf, told, things):
    """The size of pieces that tells a lot."""
    return str(telling_size(things[0]).size)


def say_flat(shelf, told, things):
    """Whether a lot is flat."""
    return flat_word(things[0]).word


def say_even(shelf, told, things):
    """Whether a lot is even."""
    return even_word(things[0]).word


def say_deep(shelf, told, things):
    """Whether a lot is deep."""
    return deep_word(things[0]).word


def say_hears(shelf, told, things):
    """What a probe hears of a lot."""
    return numbers_line(heard(things[0], things[1]))


def say_tells(shelf, told, things):
    """Whether probes tell all."""
    return tells_all(things).word


def say_together(shelf, told, things):
    """Whether lots are flat together."""
    return flat_together(things).word


def say_hush(shelf, told, things):
    """Whether two strips hush."""
    return hushed(things[0], things[1]).word


def say_kept(shelf, told, things):
    """How many lots keep a book."""
    return str(many_kept(things[0]))


def say_is(shelf, told, things):
    """Whether a saying is so in a book."""
    return judged(things[0], told[2]).word


def say_next(shelf, told, things):
    """The distance to ask for, or that one wide class is left."""
    found = next_distance(things[0])
    return "known" if found.word == "known" else str(found.distance)


def say_idle(shelf, told, things):
    """The numbers of the idle sayings of a book."""
    return numbers_line(idle_sayings(things[0]))


def say_quarrels(shelf, told, things):
    """The numbers of the sayings of each quarrel of a book."""
    found = quarrels(things[0])
    return " / ".join([numbers_line(numbers) for numbers in found]) if len(found) > 0 else "-"


SAYERS = {
    "names": say_names,
    "show": say_show,
    "spans": say_spans,
    "counts": say_counts,
    "alike": say_alike,
    "kin": say_kin,
    "silent": say_silent,
    "pieces": say_pieces,
    "told": say_told,
    "flat": say_flat,
    "even": say_even,
    "deep": say_deep,
    "hears": say_hears,
    "tells": say_tells,
    "together": say_together,
    "hush": say_hush,
    "kept": say_kept,
    "is": say_is,
    "next": say_next,
    "idle": say_idle,
    "quarrels": say_quarrels,
}


def answer_of(shelf, line):
    """The answer to an ask line."""
    need_shelf(shelf)
    told = read_line_of(line, ASKS)
    things = things_named(shelf, told)
    sayer = SAYERS[told[0]]
    return sayer(shelf, told, things)
