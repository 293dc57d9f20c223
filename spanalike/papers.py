"""Papers: answers with what shows them."""


def fixed(value):
    """The value with tuples in the place of lists, all the way in."""
    if isinstance(value, (list, tuple)):
        return tuple([fixed(item) for item in value])
    return value


class Paper:
    """A paper; it is true."""

    def __init__(self, word, *parts):
        self.word = word
        self.parts = fixed(parts)

    def __eq__(self, other):
        return type(self) is type(other) and self.word == other.word and self.parts == other.parts

    def __bool__(self):
        return True


class Denial(Paper):
    """A paper that says no; it is false."""

    def __init__(self, word, *parts):
        self.word = word
        self.parts = fixed(parts)

    def __eq__(self, other):
        return type(self) is type(other) and self.word == other.word and self.parts == other.parts

    def __bool__(self):
        return False
