"""The lines that a desk is told: how they are read, and of what they speak."""

from spanalike.basics import integer_at, need_item
from spanalike.checks import is_name
from spanalike.errors import BadText
from spanalike.rows import Row
from spanalike.sayings import Saying
from spanalike.strips import Strip

DEEDS = (
    "row", "lot", "strip", "book", "turn", "mirror", "stretch", "leave", "product", "fold", "tell", "strike", "drop",
)
ASKS = (
    "names", "show", "spans", "counts", "alike", "kin", "silent", "pieces", "told", "flat", "even", "deep", "hears",
    "tells", "together", "hush", "kept", "is", "next", "idle", "quarrels",
)

# what stands behind the first item; beats, numbers, names, row, strip and saying go to the end of the line
ITEMS = {
    "row": ("new", "row"),
    "lot": ("new", "number", "beats"),
    "strip": ("new", "strip"),
    "book": ("new", "number"),
    "turn": ("name", "integer"),
    "mirror": ("name",),
    "stretch": ("name", "integer"),
    "leave": ("name",),
    "product": ("new", "name", "name"),
    "fold": ("new", "name", "number"),
    "tell": ("name", "saying"),
    "strike": ("name", "numbers"),
    "drop": ("name",),
    "names": (),
    "show": ("name",),
    "spans": ("name",),
    "counts": ("name",),
    "alike": ("name", "name"),
    "kin": ("name",),
    "silent": ("name",),
    "pieces": ("name", "number"),
    "told": ("name",),
    "flat": ("name",),
    "even": ("name",),
    "deep": ("name",),
    "hears": ("name", "name"),
    "tells": ("names",),
    "together": ("names",),
    "hush": ("name", "name"),
    "kept": ("name",),
    "is": ("name", "saying"),
    "next": ("name",),
    "idle": ("name",),
    "quarrels": ("name",),
}

# of which kinds the things can be that are named, all of one kind
KINDS = {
    "turn": ("row",),
    "mirror": ("row", "strip"),
    "stretch": ("row",),
    "leave": ("row",),
    "product": ("row", "strip"),
    "fold": ("strip",),
    "tell": ("book",),
    "strike": ("book",),
    "drop": ("row", "strip", "book"),
    "show": ("row", "strip", "book"),
    "spans": ("row", "strip"),
    "counts": ("row", "strip"),
    "alike": ("row", "strip"),
    "kin": ("row",),
    "silent": ("row",),
    "pieces": ("row",),
    "told": ("row",),
    "flat": ("row",),
    "even": ("row",),
    "deep": ("row",),
    "hears": ("row",),
    "tells": ("row",),
    "together": ("row",),
    "hush": ("strip",),
    "kept": ("book",),
    "is": ("book",),
    "next": ("book",),
    "idle": ("book",),
    "quarrels": ("book",),
}


def name_at(items, index):
    """The name that an item tells."""
    need_item(items, index)
    if not is_name(items[index]):
        raise BadText(0, index)
    return items[index]


def item_value(items, index, kind):
    """What an item of this kind stands for."""
    if kind == "number":
        return integer_at(items, index, 0, None)
    if kind == "integer":
        return integer_at(items, index, None, None)
    return name_at(items, index)


def text_value(items, start, kind):
    """The row, strip or saying that the items from one on tell."""
    text = " ".join(items[start:])
    try:
        if kind == "row":
            return Row.read(text)
        if kind == "strip":
            return Strip.read(text)
        return Saying.read(text)
    except BadText as error:
        raise BadText(0, start + error.item)


def ascending_numbers(items, start):
    """The list of the integers from 0 on that the items from one on tell, each greater than the last."""
    numbers = [integer_at(items, start, 0, None)]
    for index in range(start + 1, len(items)):
        numbers.append(integer_at(items, index, numbers[-1] + 1, None))
    return numbers


def last_values(items, start, kind):
    """The list of what the items from one on to the end stand for, None if this kind is one item."""
    if kind in ("row", "strip", "saying"):
        return [text_value(items, start, kind)]
    if kind == "beats":
        return ascending_numbers(items, start)
    if kind not in ("numbers", "names"):
        return None
    need_item(items, start)
    alone = kind[:-1]
    return [item_value(items, index, alone) for index in range(start, len(items))]


def read_line(line):
    """The tuple of the first item of a line, and of what the others stand for."""
    if not isinstance(line, str):
        raise BadText(0, 0)
    items = line.split(" ")
    if items[0] not in ITEMS:
        raise BadText(0, 0)
    told = [items[0]]
    for kind in ITEMS[items[0]]:
        values = last_values(items, len(told), kind)
        if values is not None:
            return tuple(told + values)
        told.append(item_value(items, len(told), kind))
    if len(items) > len(told):
        raise BadText(0, len(told))
    return tuple(told)


def read_line_of(line, words):
    """What `read_line` reads of a line that begins with one of the words, no other one."""
    if not isinstance(line, str) or line.split(" ")[0] not in words:
        raise BadText(0, 0)
    return read_line(line)


def new_name(told):
    """The name under which a line that was read puts in a thing, None if it puts in none."""
    return told[1] if "new" in ITEMS[told[0]] else None


def names_in(told):
    """The list of the names in a line that was read under which something must be kept."""
    kinds = ITEMS[told[0]]
    if kinds == ("names",):
        return list(told[1:])
    return [told[index + 1] for index, kind in enumerate(kinds) if kind == "name"]
