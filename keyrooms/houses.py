"""Houses, and the orders in which their rooms are opened."""

from keyrooms.errors import NoHouse, NoPlain, NoStep

LETTERS = "abcdefghijklmnopqrstuvwxyz"
MOST_LETTERS = 4
MOST_LOCKS = 4


def is_whole(thing):
    """Whether anything is a whole number."""
    # Python counts True and False among its ints.
    return isinstance(thing, int) and not isinstance(thing, bool)


def is_kind(thing):
    """Whether anything is a kind."""
    if not isinstance(thing, str) or not 1 <= len(thing) <= MOST_LETTERS:
        return False
    return all([sign in LETTERS for sign in thing])


def are_kinds(thing):
    """Whether anything is a list of kinds."""
    return isinstance(thing, list) and all([is_kind(kind) for kind in thing])


def are_locks(thing):
    """Whether anything is the list of a door's locks."""
    return are_kinds(thing) and 1 <= len(thing) <= MOST_LOCKS and thing == sorted(thing)


def is_room(thing):
    """Whether anything is a room."""
    return isinstance(thing, tuple) and len(thing) == 2 and are_locks(thing[0]) and are_kinds(thing[1])


def is_house(thing):
    """Whether anything is a house."""
    if not isinstance(thing, tuple) or len(thing) != 2:
        return False
    keys, rooms = thing
    return are_kinds(keys) and isinstance(rooms, list) and all([is_room(room) for room in rooms])


def require_house(thing):
    """Refuse what is no house."""
    if not is_house(thing):
        raise NoHouse("this is no house")


def is_plain(house):
    """Whether each door of the house has one lock."""
    require_house(house)
    return all([len(locks) == 1 for locks, within in house[1]])


def require_plain(thing):
    """Refuse what is no house, then a house that is not plain."""
    if not is_plain(thing):
        raise NoPlain("a door of this house has several locks")


def serves(hand, locks):
    """Whether the keys in hand are enough for all locks of a door."""
    return all([hand.count(kind) >= locks.count(kind) for kind in locks])


def hand_behind(hand, room):
    """The keys in hand once a room is opened whose locks they serve, as a new list."""
    locks, within = room
    rest = list(hand)
    for kind in locks:
        rest.remove(kind)
    return rest + within


def is_step(rooms, hand, gone, number):
    """Whether anything is the number of a room that may be opened behind those that are gone."""
    if not is_whole(number) or not 0 <= number < len(rooms):
        return False
    return number not in gone and serves(hand, rooms[number][0])


def hand_after(house, order):
    """The keys in hand behind an order, in no sure order; NoStep where it may not be gone."""
    if not isinstance(order, list):
        raise NoStep(None)
    keys, rooms = house
    hand = list(keys)
    for at, number in enumerate(order):
        if not is_step(rooms, hand, order[:at], number):
            raise NoStep(at)
        hand = hand_behind(hand, rooms[number])
    return hand


def keys_behind(house, order):
    """The keys in hand behind an order, sorted."""
    require_house(house)
    return sorted(hand_after(house, order))


def next_rooms(house, order):
    """The rooms that may be opened next behind an order, rising."""
    require_house(house)
    hand = hand_after(house, order)
    rooms = house[1]
    return [number for number in range(len(rooms)) if is_step(rooms, hand, order, number)]


def is_stuck(house, order):
    """Whether no room is left behind an order, or none that may be opened."""
    return not next_rooms(house, order)
