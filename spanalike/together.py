"""Lots of one ring that are flat together: their spans, added up, are one number but at beat 0."""

from spanalike.basics import need_at_most, need_integer, need_many
from spanalike.checks import are_integers
from spanalike.errors import BadNumber, BadRow, Impossible
from spanalike.families import leasts_of_size
from spanalike.papers import Denial, Paper
from spanalike.rows import need_listed, need_lot, need_one_ring
from spanalike.spans import spans


class FlatTogether(Paper):
    """The common span of some lots."""

    def __init__(self, number):
        Paper.__init__(self, "flattogether", number)
        self.number = self.parts[0]


class BentTogether(Denial):
    """Two distances, one less than other, at which spans of some lots, added up, are unlike."""

    def __init__(self, one, other):
        Denial.__init__(self, "benttogether", one, other)
        self.one = self.parts[0]
        self.other = self.parts[1]


class TogetherBar(Denial):
    """No lots of some sizes are flat together: by count, or by squares."""

    def __init__(self, kind, number):
        Denial.__init__(self, "togetherbar", kind, number)
        self.kind = self.parts[0]
        self.number = self.parts[1]


def need_listed_lots(lots):
    """Raises BadRow for what is no list of one to six lots."""
    need_listed(lots, "lots", 6)
    for lot in lots:
        need_lot(lot, "lots")


def need_lots(lots):
    """Raises what is wrong with a list of lots of one ring."""
    need_listed_lots(lots)
    need_one_ring(lots)


def spans_added(lots):
    """The list of the spans of lots of one ring, added up, from beat 0 on."""
    told = [spans(lot) for lot in lots]
    return [sum([its[beat] for its in told]) for beat in range(lots[0].many)]


def added_spans(lots):
    """The tuple of the spans of some lots, added up, from beat 0 on."""
    need_lots(lots)
    return tuple(spans_added(lots))


def word_together(lots):
    """The common span of lots of one ring, or the least two distances that deny that there is one."""
    told = spans_added(lots)
    for distance in range(2, lots[0].many // 2 + 1):
        if told[distance] != told[1]:
            return BentTogether(1, distance)
    return FlatTogether(told[1])


def flat_together(lots):
    """The common span of some lots, or the least two distances that deny that there is one."""
    need_lots(lots)
    return word_together(lots)


def need_sizes(many, sizes):
    """Raises what is wrong with a ring, or with the sizes of one to six lots."""
    need_many(many)
    if not are_integers(sizes) or not 1 <= len(sizes) <= 6:
        raise BadNumber("sizes")
    for size in sizes:
        need_integer(size, "sizes", 0, many)


def sums_of_squares(many, sizes):
    """The ascending list of the sums of squares, one for each lot of a ring of evenly many beats.

    Each is of what the marks on even beats can be more than those on odd ones, by the size alone.
    """
    sums = [0]
    for size in sizes:
        roots = list(range(size % 2, min(size, many - size) + 1, 2))
        sums = sorted(set([total + root * root for total in sums for root in roots]))
    return sums


def together_bar(many, sizes):
    """None, or the first bar of lots of these sizes that are flat together."""
    need_sizes(many, sizes)
    pairs = sum([size * (size - 1) for size in sizes])
    rest = pairs % (many - 1)
    if rest != 0:
        return TogetherBar("count", rest)
    number = sum(sizes) - pairs // (many - 1)
    if many % 2 == 0 and number not in sums_of_squares(many, sizes):
        return TogetherBar("squares", number)
    return None


def pairs_together(many, size, other_size):
    """The ascending tuple of all pairs of lots of two sizes, leasts of their wide classes, flat together.

    Of one size each two lots are told once.
    """
    need_many(many)
    need_integer(size, "size", 0, many)
    need_integer(other_size, "other_size", 0, many)
    need_at_most(many, 12)
    leasts, others = leasts_of_size(many, size), leasts_of_size(many, other_size)
    pairs = []
    for index, one in enumerate(leasts):
        start = index if size == other_size else 0
        pairs.extend([(one, other) for other in others[start:] if word_together([one, other])])
    return tuple(pairs)


def exchanged(lots, number, lot):
    """The tuple of lots that are flat together with another one in the place of that with the number.

    It has the same spans as that one, or as what that one leaves out.
    """
    need_listed_lots(lots)
    need_integer(number, "number", 0, len(lots) - 1)
    need_lot(lot, "lot")
    need_one_ring(list(lots) + [lot])
    word = word_together(lots)
    if not word:
        raise Impossible(word)
    if spans(lot) != spans(lots[number]) and spans(lot) != spans(lots[number].left_out()):
        raise BadRow("lot")
    return tuple(lots[:number]) + (lot,) + tuple(lots[number + 1:])
