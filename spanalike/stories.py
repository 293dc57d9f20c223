"""Stories of desks: told again, compared, put together."""

from spanalike.checks import is_listed
from spanalike.desk import Desk
from spanalike.desk_lines import DEEDS
from spanalike.errors import BadDesk, BadLine, BadText, BeatError


def tell_deed(desk, line):
    """Tells a desk a deed line; BadText for any other line."""
    if line.split(" ")[0] not in DEEDS:
        raise BadText(0, 0)
    desk(line)


def replay(lines):
    """A new desk that is told these deed lines."""
    if not is_listed(lines) or not all([isinstance(line, str) for line in lines]):
        raise BadDesk("lines")
    desk = Desk()
    for index, line in enumerate(lines):
        try:
            tell_deed(desk, line)
        except BeatError as error:
            raise BadLine(index, error)
    return desk


def need_desks(one, other):
    """Raises BadDesk for what are not two Desks."""
    if not isinstance(one, Desk):
        raise BadDesk("one")
    if not isinstance(other, Desk):
        raise BadDesk("other")


def many_alike(lines, others):
    """How many lines two tuples begin with alike."""
    many = 0
    for line, its in zip(lines, others):
        if line != its:
            return many
        many += 1
    return many


def parting(one, other):
    """How many lines the stories of two desks begin with alike."""
    need_desks(one, other)
    return many_alike(one.story, other.story)


def merged(one, other):
    """A new desk that is told the lines of two stories, and the indexes of the other's refused lines."""
    need_desks(one, other)
    desk = replay(one.story)
    refused = []
    for index in range(many_alike(one.story, other.story), len(other.story)):
        try:
            desk(other.story[index])
        except BeatError:
            refused.append(index)
    return desk, tuple(refused)
