"""The errors of the package."""


def shown(value):
    """A short text for a field; any value may stand there, so only short ones are written out."""
    if type(value) is str and len(value) <= 60:
        return value
    if type(value) is int and value.bit_length() <= 64:
        return str(value)
    return "a value"


class BeatError(ValueError):
    """The base of all errors of the package."""

    def __init__(self, wording="something is wrong"):
        ValueError.__init__(self, wording)


class BadRow(BeatError):
    """A value that is no row, or no lot where a lot is asked."""

    def __init__(self, part):
        BeatError.__init__(self, f"no such row or lot: {shown(part)}")
        self.part = part


class BadStrip(BeatError):
    """A value that is no strip, or no lot on a line where one is asked."""

    def __init__(self, part):
        BeatError.__init__(self, f"no such strip: {shown(part)}")
        self.part = part


class BadPiece(BeatError):
    """A value that is no piece, or no counts of pieces."""

    def __init__(self, part):
        BeatError.__init__(self, f"no such piece: {shown(part)}")
        self.part = part


class BadSaying(BeatError):
    """A value that is no saying."""

    def __init__(self, part):
        BeatError.__init__(self, f"no such saying: {shown(part)}")
        self.part = part


class BadBook(BeatError):
    """A value that is no book."""

    def __init__(self, part):
        BeatError.__init__(self, f"no book: {shown(part)}")
        self.part = part


class BadNumber(BeatError):
    """A value that is no integer, or no list of integers, within the bounds."""

    def __init__(self, part):
        BeatError.__init__(self, f"no such number: {shown(part)}")
        self.part = part


class BadPaper(BeatError):
    """A value that is no right paper of the class that is asked."""

    def __init__(self, part):
        BeatError.__init__(self, f"no right paper: {shown(part)}")
        self.part = part


class BadDesk(BeatError):
    """A value that is nothing a desk can be made of."""

    def __init__(self, part):
        BeatError.__init__(self, f"no desk: {shown(part)}")
        self.part = part


class Misfit(BeatError):
    """Values that do not fit together."""

    def __init__(self, part):
        BeatError.__init__(self, f"these do not fit together: {shown(part)}")
        self.part = part


class Missing(BeatError):
    """A value that is none here; only the classes below it are raised."""

    def __init__(self, value):
        BeatError.__init__(self, f"there is none such here: {shown(value)}")
        self.value = value


class NoBeat(Missing):
    """A value that is no beat of the ring."""

    def __init__(self, value):
        Missing.__init__(self, value)


class NoDivisor(Missing):
    """A value that is no divisor of the ring."""

    def __init__(self, value):
        Missing.__init__(self, value)


class NoSaying(Missing):
    """A value that is no number of a saying."""

    def __init__(self, value):
        Missing.__init__(self, value)


class NoName(Missing):
    """A value that is no name under which something is kept."""

    def __init__(self, value):
        Missing.__init__(self, value)


class Twice(BeatError):
    """A value that stands there already."""

    def __init__(self, value):
        BeatError.__init__(self, f"this stands there already: {shown(value)}")
        self.value = value


class Impossible(BeatError):
    """What is asked cannot be; the paper is a denial that shows it."""

    def __init__(self, paper):
        BeatError.__init__(self, f"this cannot be: {shown(paper)}")
        self.paper = paper


class TooMany(BeatError):
    """There are more of something than the most that can be."""

    def __init__(self, what, most):
        BeatError.__init__(self, f"there are too many: {shown(what)}, {shown(most)}")
        self.what = what
        self.most = most


class Nothing(BeatError):
    """There is nothing to take back or to do again."""

    def __init__(self):
        BeatError.__init__(self, "there is nothing")


class BadText(BeatError):
    """A text of which an item cannot stand, or is missing."""

    def __init__(self, line, item):
        BeatError.__init__(self, f"this item cannot stand: {shown(line)}, {shown(item)}")
        self.line = line
        self.item = item


class BadLine(BeatError):
    """A line of a desk, and the error that it raised."""

    def __init__(self, line, error):
        BeatError.__init__(self, f"this line raised an error: {shown(line)}, {shown(error)}")
        self.line = line
        self.error = error
