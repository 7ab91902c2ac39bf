"""The first order of all rooms, and whether an order can be gone on with to all rooms."""

from keyrooms.houses import hand_after, is_plain, require_plain
from keyrooms.opening import few_paper, order_of_all, shut_kinds
from keyrooms.roomsets import require_small, set_of_all, steps_of


def nothing_bars(house):
    """Whether all rooms of a plain house can be opened."""
    return few_paper(house) is None and not shut_kinds(house)


def first_order(house):
    """The first order of all rooms of a plain house, or None."""
    require_plain(house)
    if not nothing_bars(house):
        return None
    return order_of_all(house)


def house_behind(house, order):
    """What is left behind an order, as a house: the keys in hand, and the rooms that were not opened."""
    hand = hand_after(house, order)
    return (hand, [room for number, room in enumerate(house[1]) if number not in order])


def goes_on(house, order):
    """Whether the order can be gone on with to all rooms."""
    plain = is_plain(house)
    if not plain:
        require_small(house)
    left = house_behind(house, order)
    if plain:
        return nothing_bars(left)
    return set_of_all(left) in steps_of(left)
