"""What may be said of an unseen lot."""

from spanalike.basics import integer_at, need_integer, need_item, need_many, written
from spanalike.checks import first_twice, is_listed, is_within
from spanalike.errors import BadPiece, BadSaying, BadText, Misfit, Twice
from spanalike.numbered import signs_of
from spanalike.rows import need_lot

KINDS = ("=", ">=", "<=")


def need_kind(value):
    """Raises BadSaying for what is no kind of telling a number."""
    if not isinstance(value, str) or value not in KINDS:
        raise BadSaying("kind")


def is_so(kind, heard, number):
    """Whether a number that is heard is as a kind and a number tell."""
    if kind == "=":
        return heard == number
    if kind == ">=":
        return heard >= number
    return heard <= number


def forms_of(many, beats):
    """The list of all turned forms of some beats of a ring, as integers."""
    forms = []
    for turn in range(many):
        form = signs_of(many, [(beat + turn) % many for beat in beats])
        if form not in forms:
            forms.append(form)
    return forms


def times_there(many, beats, lots):
    """The list of how often turned forms of some beats are in lots, told as integers."""
    forms = forms_of(many, beats)
    return [len([form for form in forms if (lot & form) == form]) for lot in lots]


def those_so(lots, heard, kind, number):
    """The list of the lots of which what is heard of each is as a kind and a number tell."""
    return [lot for lot, its in zip(lots, heard) if is_so(kind, its, number)]


def is_kept(saying, lot):
    """Whether a lot keeps a saying."""
    need_lot(lot, "lot")
    if not saying.fits(lot.many):
        raise Misfit("beats")
    return len(saying.kept_by(lot.many, [signs_of(lot.many, lot.marks)])) == 1


class Saying:
    """What tells something of an unseen lot; one that is nothing more fits no ring.

    Each class below has a method `kept_by(many, lots)`: of some lots of a ring that the saying
    fits, told as integers by `signs_of`, the list of those that keep it.
    """

    def __eq__(self, other):
        return type(self) is type(other)

    def __str__(self):
        return "saying"

    def fits(self, many):
        """Whether the saying fits a ring."""
        need_many(many)
        return False

    def keeps(self, lot):
        """Whether a lot keeps the saying."""
        return is_kept(self, lot)

    @staticmethod
    def read(text):
        """The saying whose text this is."""
        if not isinstance(text, str):
            raise BadText(0, 0)
        return whole_saying(text.split(" "), 0)


class HeardDistance(Saying):
    """What tells the count of a distance."""

    def __init__(self, distance, kind, number):
        need_integer(distance, "distance", 1, 12)
        need_kind(kind)
        need_integer(number, "number", 0, None)
        self.distance = distance
        self.kind = kind
        self.number = number

    def __eq__(self, other):
        if not isinstance(other, HeardDistance) or self.distance != other.distance:
            return False
        return self.kind == other.kind and self.number == other.number

    def __str__(self):
        return f"distance {self.distance} {self.kind} {written(self.number)}"

    def fits(self, many):
        """Whether the saying fits a ring."""
        need_many(many)
        return self.distance <= many // 2

    def kept_by(self, many, lots):
        """The list of the lots that keep the saying."""
        return those_so(lots, times_there(many, (0, self.distance), lots), self.kind, self.number)

    def keeps(self, lot):
        """Whether a lot keeps the saying."""
        return is_kept(self, lot)


class HeardSize(Saying):
    """What tells the size."""

    def __init__(self, kind, number):
        need_kind(kind)
        need_integer(number, "number", 0, None)
        self.kind = kind
        self.number = number

    def __eq__(self, other):
        return isinstance(other, HeardSize) and self.kind == other.kind and self.number == other.number

    def __str__(self):
        return f"size {self.kind} {written(self.number)}"

    def fits(self, many):
        """Whether the saying fits a ring: it fits each."""
        need_many(many)
        return True

    def kept_by(self, many, lots):
        """The list of the lots that keep the saying."""
        return those_so(lots, times_there(many, (0,), lots), self.kind, self.number)

    def keeps(self, lot):
        """Whether a lot keeps the saying."""
        return is_kept(self, lot)


class HeardPiece(Saying):
    """What tells how often a piece is there."""

    def __init__(self, piece, kind, number):
        if not is_listed(piece) or not 2 <= len(piece) <= 5:
            raise BadPiece("piece")
        if not all([is_within(beat, 0, 23) for beat in piece]) or piece[0] != 0:
            raise BadPiece("piece")
        if not all([beat < behind for beat, behind in zip(piece, piece[1:])]):
            raise BadPiece("piece")
        need_kind(kind)
        need_integer(number, "number", 0, None)
        self.piece = tuple(piece)
        self.kind = kind
        self.number = number

    def __eq__(self, other):
        if not isinstance(other, HeardPiece) or self.piece != other.piece:
            return False
        return self.kind == other.kind and self.number == other.number

    def __str__(self):
        beats = " ".join([str(beat) for beat in self.piece])
        return f"piece {beats} {self.kind} {written(self.number)}"

    def fits(self, many):
        """Whether the saying fits a ring."""
        need_many(many)
        return self.piece[-1] < many

    def kept_by(self, many, lots):
        """The list of the lots that keep the saying."""
        return those_so(lots, times_there(many, self.piece, lots), self.kind, self.number)

    def keeps(self, lot):
        """Whether a lot keeps the saying."""
        return is_kept(self, lot)


class HeardSum(Saying):
    """What tells a sum of counts of distances, each times an integer."""

    def __init__(self, pairs, kind, number):
        if not is_listed(pairs) or not 1 <= len(pairs) <= 6:
            raise BadSaying("pairs")
        for pair in pairs:
            if not is_listed(pair) or len(pair) != 2:
                raise BadSaying("pairs")
            if not is_within(pair[0], 1, 12) or not is_within(pair[1], -9, 9):
                raise BadSaying("pairs")
        again = first_twice([pair[0] for pair in pairs])
        if again is not None:
            raise Twice(again)
        need_kind(kind)
        need_integer(number, "number", None, None)
        self.pairs = tuple(sorted([tuple(pair) for pair in pairs]))
        self.kind = kind
        self.number = number

    def __eq__(self, other):
        if not isinstance(other, HeardSum) or self.pairs != other.pairs:
            return False
        return self.kind == other.kind and self.number == other.number

    def __str__(self):
        told = " ".join([f"{distance} {times}" for distance, times in self.pairs])
        return f"sum {told} {self.kind} {written(self.number)}"

    def fits(self, many):
        """Whether the saying fits a ring."""
        need_many(many)
        return self.pairs[-1][0] <= many // 2

    def kept_by(self, many, lots):
        """The list of the lots that keep the saying."""
        heard = [0] * len(lots)
        for distance, times in self.pairs:
            counts = times_there(many, (0, distance), lots)
            heard = [its + times * count for its, count in zip(heard, counts)]
        return those_so(lots, heard, self.kind, self.number)

    def keeps(self, lot):
        """Whether a lot keeps the saying."""
        return is_kept(self, lot)


class MarkedBeat(Saying):
    """What tells that a beat is marked."""

    def __init__(self, beat):
        need_integer(beat, "beat", 0, 23)
        self.beat = beat

    def __eq__(self, other):
        return isinstance(other, MarkedBeat) and self.beat == other.beat

    def __str__(self):
        return f"marked {self.beat}"

    def fits(self, many):
        """Whether the saying fits a ring."""
        need_many(many)
        return self.beat < many

    def kept_by(self, many, lots):
        """The list of the lots that keep the saying."""
        sign = signs_of(many, (self.beat,))
        return [lot for lot in lots if (lot & sign) == sign]

    def keeps(self, lot):
        """Whether a lot keeps the saying."""
        return is_kept(self, lot)


class FreeBeat(Saying):
    """What tells that a beat is free."""

    def __init__(self, beat):
        need_integer(beat, "beat", 0, 23)
        self.beat = beat

    def __eq__(self, other):
        return isinstance(other, FreeBeat) and self.beat == other.beat

    def __str__(self):
        return f"free {self.beat}"

    def fits(self, many):
        """Whether the saying fits a ring."""
        need_many(many)
        return self.beat < many

    def kept_by(self, many, lots):
        """The list of the lots that keep the saying."""
        sign = signs_of(many, (self.beat,))
        return [lot for lot in lots if (lot & sign) == 0]

    def keeps(self, lot):
        """Whether a lot keeps the saying."""
        return is_kept(self, lot)


def is_saying(value):
    """Whether any value is a saying."""
    return isinstance(value, (HeardDistance, HeardSize, HeardPiece, HeardSum, MarkedBeat, FreeBeat))


def kind_at(items, index):
    """The kind that an item of a text tells."""
    need_item(items, index)
    if items[index] not in KINDS:
        raise BadText(0, index)
    return items[index]


def beats_at(items, start, many):
    """The beats of a piece that a text tells from an item on, below many."""
    beats = [integer_at(items, start, 0, 0), integer_at(items, start + 1, 1, many - 1)]
    index = start + 2
    while index < len(items) and items[index] not in KINDS and len(beats) < 5:
        beats.append(integer_at(items, index, beats[-1] + 1, many - 1))
        index += 1
    return beats


def pairs_at(items, start, many):
    """The pairs of a sum that a text tells from an item on, of distances of a ring."""
    pairs = []
    least = 1
    index = start
    while index == start or (index < len(items) and items[index] not in KINDS and len(pairs) < 6):
        least = integer_at(items, index, least, many // 2) + 1
        pairs.append((least - 1, integer_at(items, index + 1, -9, 9)))
        index += 2
    return pairs


def saying_at(items, start, many):
    """The saying that a text tells from an item on, fitting a ring, and the index behind it."""
    need_item(items, start)
    word = items[start]
    index = start + 1
    if word == "distance":
        distance = integer_at(items, index, 1, many // 2)
        saying = HeardDistance(distance, kind_at(items, index + 1), integer_at(items, index + 2, 0, None))
        return saying, index + 3
    if word == "size":
        return HeardSize(kind_at(items, index), integer_at(items, index + 1, 0, None)), index + 2
    if word == "piece":
        beats = beats_at(items, index, many)
        index += len(beats)
        return HeardPiece(beats, kind_at(items, index), integer_at(items, index + 1, 0, None)), index + 2
    if word == "sum":
        pairs = pairs_at(items, index, many)
        index += 2 * len(pairs)
        return HeardSum(pairs, kind_at(items, index), integer_at(items, index + 1, None, None)), index + 2
    if word == "marked":
        return MarkedBeat(integer_at(items, index, 0, many - 1)), index + 1
    if word == "free":
        return FreeBeat(integer_at(items, index, 0, many - 1)), index + 1
    raise BadText(0, start)


def whole_saying(items, start):
    """The saying that a text tells from an item on to its end."""
    saying, index = saying_at(items, start, 24)
    if index < len(items):
        raise BadText(0, index)
    return saying
