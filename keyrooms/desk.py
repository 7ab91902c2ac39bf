"""The desk: a house that is put together and gone through by rows of words."""

from keyrooms.bought import keys_to_buy
from keyrooms.errors import NoRow, NoStep
from keyrooms.firstorder import first_order
from keyrooms.houses import are_kinds, are_locks, keys_behind, next_rooms
from keyrooms.most import most_rooms, most_worth
from keyrooms.opening import told_opening
from keyrooms.orders import how_many_orders, nth_order
from keyrooms.roomsets import require_small
from keyrooms.texts import show_house, show_keys, split_keys

FIGURES = "0123456789"
MOST_FIGURES = 9


def is_number(word):
    """Whether a word writes a number."""
    if not 1 <= len(word) <= MOST_FIGURES or not all([sign in FIGURES for sign in word]):
        return False
    return word == "0" or word[0] != "0"


def read_numbers(text, many):
    """The numbers that a text of just so many words writes, else NoRow."""
    words = text.split(" ")
    if len(words) != many or not all([is_number(word) for word in words]):
        raise NoRow("numbers are wanted here")
    return [int(word) for word in words]


def read_keys(text):
    """The keys that a text writes, in any order, else NoRow."""
    keys = split_keys(text)
    if not are_kinds(keys):
        raise NoRow("keys are wanted here")
    return keys


def read_locks(text):
    """The locks that a text writes in any order, sorted, else NoRow."""
    locks = sorted(text.split("+"))
    if not are_locks(locks):
        raise NoRow("locks are wanted here")
    return locks


def show_numbers(numbers):
    """Rooms' numbers with blanks between, or none."""
    return " ".join([str(number) for number in numbers]) if numbers else "none"


def put_keys(desk, rest):
    """Have these keys at the beginning, in place of those that were there."""
    desk.house = (read_keys(rest), desk.house[1])
    desk.gone = []
    return "ok"


def put_room(desk, rest):
    """Have a further room, worth nothing at first."""
    locks, blank, within = rest.partition(" ")
    room = (read_locks(locks), read_keys(within))
    keys, rooms = desk.house
    house = (keys, rooms + [room])
    require_small(house)
    desk.house = house
    desk.worths = desk.worths + [0]
    desk.gone = []
    return "ok"


def put_worth(desk, rest):
    """Have a room be worth so much."""
    number, worth = read_numbers(rest, 2)
    if number >= len(desk.worths):
        # The number stands in no order, so there is no place of a wrong step.
        raise NoStep(None)
    desk.worths[number] = worth
    return "ok"


def open_room(desk, rest):
    """Go on with the order by a room."""
    order = desk.gone + read_numbers(rest, 1)
    # Asked for its refusal alone, ahead of any change.
    keys_behind(desk.house, order)
    desk.gone = order
    return "ok"


def tell_nth(desk, rest):
    """The order of all rooms that has this number."""
    return show_numbers(nth_order(desk.house, read_numbers(rest, 1)[0]))


def go_back(desk):
    """Let go of the last room of the order."""
    if not desk.gone:
        raise NoStep(None)
    desk.gone = desk.gone[:-1]
    return "ok"


def put_anew(desk):
    """Have all as at first."""
    desk.begin()
    return "ok"


def tell_hand(desk):
    """The keys in hand behind the order gone."""
    return show_keys(keys_behind(desk.house, desk.gone))


def tell_next(desk):
    """The rooms that may be opened next."""
    return show_numbers(next_rooms(desk.house, desk.gone))


def tell_gone(desk):
    """The order gone."""
    return show_numbers(desk.gone)


def tell_all(desk):
    """Whether all rooms can be opened, or what bars it."""
    told = told_opening(desk.house)
    if told[0] == "all":
        return "yes"
    if told[0] == "few":
        return f"few {told[1]} {told[2]} {told[3]}"
    return "shut " + " ".join(told[1])


def tell_first(desk):
    """The first order of all rooms."""
    # Where there is no order, and where the order has no room, none is due alike.
    return show_numbers(first_order(desk.house) or [])


def tell_buy(desk):
    """How many keys must be bought."""
    return str(len(keys_to_buy(desk.house)))


def tell_orders(desk):
    """How many orders of all rooms there are."""
    return str(how_many_orders(desk.house))


def tell_most(desk):
    """The most rooms that an order opens."""
    return str(most_rooms(desk.house)[0])


def tell_best(desk):
    """The most worth that an order's rooms have together."""
    return str(most_worth(desk.house, desk.worths)[0])


def tell_show(desk):
    """The writing of the house in one row."""
    return show_house(desk.house).replace("\n", "; ")


def tell_rooms(desk):
    """How many rooms there are."""
    return str(len(desk.house[1]))


# These are looked up as whole rows, so that one with anything behind its word is no such row.
SHORT_ROWS = {
    "back": go_back, "new": put_anew, "hand": tell_hand, "next": tell_next, "gone": tell_gone, "all": tell_all,
    "first": tell_first, "buy": tell_buy, "orders": tell_orders, "most": tell_most, "best": tell_best,
    "show": tell_show, "rooms": tell_rooms,
}

LONG_ROWS = {"keys": put_keys, "room": put_room, "worth": put_worth, "open": open_room, "nth": tell_nth}


class Desk:
    """A house, the worths of its rooms, and an order that was gone."""

    def __init__(self):
        self.begin()

    def begin(self):
        """Have no keys, no rooms, and no order gone."""
        self.house = ([], [])
        self.worths = []
        self.gone = []

    def say(self, row):
        """The answer to a row."""
        if not isinstance(row, str):
            raise NoRow("this is no text")
        if row in SHORT_ROWS:
            deed = SHORT_ROWS[row]
            return deed(self)
        word, blank, rest = row.partition(" ")
        if word not in LONG_ROWS:
            raise NoRow("this is no such row")
        long_deed = LONG_ROWS[word]
        return long_deed(self, rest)
