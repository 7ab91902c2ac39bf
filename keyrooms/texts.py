"""Houses written as texts, and read back."""

from keyrooms.errors import NoText
from keyrooms.houses import is_house, require_house


def show_keys(keys):
    """Keys as they are written: sorted, with blanks between, or -."""
    return " ".join(sorted(keys)) if keys else "-"


def show_room(room):
    """The line of a room."""
    locks, within = room
    return "+".join(locks) + ": " + show_keys(within)


def show_house(house):
    """The writing of a house."""
    require_house(house)
    keys, rooms = house
    return "\n".join([show_keys(keys)] + [show_room(room) for room in rooms])


def split_keys(text):
    """The words that stand where keys are written, be they kinds or not, as a new list."""
    return [] if text == "-" else text.split(" ")


def split_room(line):
    """What stands for a room's locks and keys in its line, be it a room or not."""
    locks, colon, within = line.partition(": ")
    return (locks.split("+"), split_keys(within))


def read_house(text):
    """The house that a text writes, its keys sorted."""
    if not isinstance(text, str):
        raise NoText("this is no text")
    first, *lines = text.split("\n")
    house = (split_keys(first), [split_room(line) for line in lines])
    # A text with keys that are not sorted comes apart as a house, too, but is not the writing of it.
    if not is_house(house) or show_house(house) != text:
        raise NoText("this text writes no house")
    return house
