"""Desks: they are told lines, answer them, and can take deed lines back."""

from spanalike.desk_asks import answer_of
from spanalike.desk_deeds import changed
from spanalike.desk_lines import DEEDS, read_line
from spanalike.errors import BadLine, BeatError, Nothing
from spanalike.shelves import Shelf, kept_as, restored


def tell(desk, line):
    """Tells a desk a line; the answer. A line that raises an error leaves the desk as it was."""
    told = read_line(line)
    if told[0] not in DEEDS:
        return answer_of(desk.shelf, line)
    later, answer = changed(desk.shelf, line)
    desk.past = desk.past + (kept_as(desk.shelf, told[1]),)
    desk.story = desk.story + (line,)
    desk.shelf = later
    desk.undone = ()
    return answer


def tell_all(desk, lines):
    """Tells a desk lines, one behind the other; the tuple of the answers."""
    answers = []
    for index, line in enumerate(lines):
        try:
            answers.append(tell(desk, line))
        except BeatError as error:
            raise BadLine(index, error)
    return tuple(answers)


def set_as(desk, other):
    """Makes a desk as another one in all."""
    desk.shelf = other.shelf
    desk.story = other.story
    desk.past = other.past
    desk.undone = other.undone


class Desk:
    """What is kept, and the story of the deed lines.

    `past` has for each line of the story what it takes to take it back, `undone` the lines that were
    taken back, the last one last.
    """

    def __init__(self):
        self.shelf = Shelf()
        self.story = ()
        self.past = ()
        self.undone = ()

    def __call__(self, line):
        """Tells one line; the answer."""
        return tell(self, line)

    def __len__(self):
        return len(self.shelf.names)

    def __contains__(self, value):
        return isinstance(value, str) and value in self.shelf.names

    def __eq__(self, other):
        return isinstance(other, Desk) and self.shelf == other.shelf

    def told(self, *lines):
        """Tells lines, all or none of them; the answers."""
        later = self.twin()
        answers = tell_all(later, lines)
        set_as(self, later)
        return answers

    def tried(self, *lines):
        """What the lines would be answered."""
        return tell_all(self.twin(), lines)

    def undo(self):
        """Takes back the last line of the story; this line."""
        if len(self.story) == 0:
            raise Nothing()
        line = self.story[-1]
        self.undone = self.undone + (line,)
        self.shelf = restored(self.shelf, self.past[-1])
        self.story = self.story[:-1]
        self.past = self.past[:-1]
        return line

    def redo(self):
        """Does again the line that was taken back last; this line."""
        if len(self.undone) == 0:
            raise Nothing()
        line, left = self.undone[-1], self.undone[:-1]
        tell(self, line)
        self.undone = left
        return line

    def twin(self):
        """A desk that is in all as this one."""
        twin = Desk()
        set_as(twin, self)
        return twin
