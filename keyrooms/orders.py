"""How many orders of a small house there are, the k-th of them, and the number of one."""

from keyrooms.errors import NoNumber, NoOrder
from keyrooms.houses import is_whole
from keyrooms.roomsets import require_small, set_of_all, steps_of, with_room


def ends_of(steps, whole):
    """For each set in how many ways it can be gone on with to all rooms."""
    ends = {}
    # Sets of more rooms go ahead here, so each finds what it adds up.
    for opened in reversed(list(steps)):
        ends[opened] = sum([ends[with_room(opened, number)] for number in steps[opened]])
        if opened == whole:
            ends[opened] = 1
    return ends


def ways_of(steps):
    """For each set how many orders open just its rooms."""
    ways = {opened: 0 for opened in steps}
    ways[0] = 1
    for opened, numbers in steps.items():
        for number in numbers:
            ways[with_room(opened, number)] += ways[opened]
    return ways


def how_many_orders(house):
    """How many orders of all rooms there are."""
    require_small(house)
    return ends_of(steps_of(house), set_of_all(house))[0]


def nth_order(house, k):
    """The k-th order of all rooms, from 0 on."""
    require_small(house)
    steps = steps_of(house)
    whole = set_of_all(house)
    ends = ends_of(steps, whole)
    if not is_whole(k) or not 0 <= k < ends[0]:
        raise NoNumber("there is no order of this number")
    order = []
    opened = 0
    ahead = k
    while opened != whole:
        at = 0
        behind = with_room(opened, steps[opened][at])
        while ahead >= ends[behind]:
            ahead -= ends[behind]
            at += 1
            behind = with_room(opened, steps[opened][at])
        order.append(steps[opened][at])
        opened = behind
    return order


def number_of_order(house, order):
    """How many orders of all rooms stand ahead of this one."""
    require_small(house)
    if not isinstance(order, list):
        raise NoOrder("this is no list")
    steps = steps_of(house)
    whole = set_of_all(house)
    ends = ends_of(steps, whole)
    opened = 0
    ahead = 0
    for number in order:
        if not is_whole(number) or number not in steps[opened]:
            raise NoOrder("this order may not be gone")
        ahead += sum([ends[with_room(opened, other)] for other in steps[opened] if other < number])
        opened = with_room(opened, number)
    if opened != whole:
        raise NoOrder("this order leaves rooms shut")
    return ahead


def how_many_stuck(house):
    """How many stuck orders there are, those of all rooms among them."""
    require_small(house)
    steps = steps_of(house)
    ways = ways_of(steps)
    return sum([ways[opened] for opened in steps if not steps[opened]])
