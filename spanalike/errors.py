"""The errors of the package."""


class BeatError(ValueError):
    """The base of all errors of the package."""

    def __init__(self, wording="something is wrong", fields=()):
        ValueError.__init__(self, wording)
        self.wording = wording
        self.fields = fields

    def __str__(self):
        return f"{self.wording} {self.fields!r}"


class BadRow(BeatError):
    """A value that is no row, or no lot where a lot is asked."""

    def __init__(self, part):
        BeatError.__init__(self, "no such row or lot:", (part,))
        self.part = part


class BadStrip(BeatError):
    """A value that is no strip, or no lot on a line where one is asked."""

    def __init__(self, part):
        BeatError.__init__(self, "no such strip:", (part,))
        self.part = part


class BadPiece(BeatError):
    """A value that is no piece, or no counts of pieces."""

    def __init__(self, part):
        BeatError.__init__(self, "no such piece:", (part,))
        self.part = part


class BadSaying(BeatError):
    """A value that is no saying."""

    def __init__(self, part):
        BeatError.__init__(self, "no such saying:", (part,))
        self.part = part


class BadBook(BeatError):
    """A value that is no book."""

    def __init__(self, part):
        BeatError.__init__(self, "no book:", (part,))
        self.part = part


class BadNumber(BeatError):
    """A value that is no integer, or no list of integers, within the bounds."""

    def __init__(self, part):
        BeatError.__init__(self, "no such number:", (part,))
        self.part = part


class BadPaper(BeatError):
    """A value that is no right paper of the class that is asked."""

    def __init__(self, part):
        BeatError.__init__(self, "no right paper:", (part,))
        self.part = part


class BadDesk(BeatError):
    """A value that is nothing a desk can be made of."""

    def __init__(self, part):
        BeatError.__init__(self, "no desk:", (part,))
        self.part = part


class Misfit(BeatError):
    """Values that do not fit together."""

    def __init__(self, part):
        BeatError.__init__(self, "these do not fit together:", (part,))
        self.part = part


class Missing(BeatError):
    """A value that is none here; only the classes below it are raised."""

    def __init__(self, value):
        BeatError.__init__(self, "there is none such here:", (value,))
        self.value = value


class NoBeat(Missing):
    """A value that is no beat of the ring."""

    def __init__(self, value):
        Missing.__init__(self, value)


class NoDivisor(Missing):
    """A value that is no divisor of the ring."""

    def __init__(self, value):
        Missing.__init__(self, value)


class NoSaying(Missing):
    """A value that is no number of a saying."""

    def __init__(self, value):
        Missing.__init__(self, value)


class NoName(Missing):
    """A value that is no name under which something is kept."""

    def __init__(self, value):
        Missing.__init__(self, value)


class Twice(BeatError):
    """A value that stands there already."""

    def __init__(self, value):
        BeatError.__init__(self, "this stands there already:", (value,))
        self.value = value


class Impossible(BeatError):
    """What is asked cannot be; the paper is a denial that shows it."""

    def __init__(self, paper):
        BeatError.__init__(self, "this cannot be:", (paper,))
        self.paper = paper


class TooMany(BeatError):
    """There are more of something than the most that can be."""

    def __init__(self, what, most):
        BeatError.__init__(self, "there are too many:", (what, most))
        self.what = what
        self.most = most


class Nothing(BeatError):
    """There is nothing to take back or to do again."""

    def __init__(self):
        BeatError.__init__(self, "there is nothing:", ())


class BadText(BeatError):
    """A text of which an item cannot stand, or is missing."""

    def __init__(self, line, item):
        BeatError.__init__(self, "this item cannot stand:", (line, item))
        self.line = line
        self.item = item


class BadLine(BeatError):
    """A line of a desk, and the error that it raised."""

    def __init__(self, line, error):
        BeatError.__init__(self, "this line raised an error:", (line, error))
        self.line = line
        self.error = error
