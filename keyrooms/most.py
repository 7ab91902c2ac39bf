"""The most rooms, or the most worth, that an order of a small house opens, and papers that no more can be had."""

from keyrooms.errors import NoNumber
from keyrooms.houses import is_whole
from keyrooms.roomsets import Doors, require_small, rooms_of, set_of, steps_of, with_room


def are_worths(thing, many):
    """Whether anything is a list of so many worths."""
    if not isinstance(thing, list) or len(thing) != many:
        return False
    return all([is_whole(worth) and worth >= 0 for worth in thing])


def require_worths(house, worths):
    """Refuse what is no small house, then what are no worths of its rooms."""
    require_small(house)
    if not are_worths(worths, len(house[1])):
        raise NoNumber("these are no worths, one for each room")


def worth_of(worths, numbers):
    """What these rooms are worth together."""
    return sum([worths[number] for number in numbers])


def first_to(steps, wanted):
    """The first order that opens a wanted set: a dict of these, all of as many rooms."""
    leads = {}
    # Sets of more rooms go ahead here, so whether one leads to a wanted set is known of all behind it.
    for opened in reversed(list(steps)):
        further = [leads[with_room(opened, number)] for number in steps[opened]]
        leads[opened] = opened in wanted or any(further)
    order = []
    opened = 0
    while opened not in wanted:
        first = min([number for number in steps[opened] if leads[with_room(opened, number)]])
        order.append(first)
        opened = with_room(opened, first)
    return order


def most_rooms(house):
    """(many, order): the most rooms that an order opens, and the first such order."""
    require_small(house)
    steps = steps_of(house)
    sizes = {opened: len(rooms_of(opened)) for opened in steps}
    many = max(sizes.values())
    return (many, first_to(steps, {opened: True for opened in steps if sizes[opened] == many}))


def stuck_sets(house):
    """All sets of rooms that stuck orders open, sorted."""
    require_small(house)
    steps = steps_of(house)
    return sorted([rooms_of(opened) for opened in steps if not steps[opened]])


def most_worth(house, worths):
    """(worth, order): the most worth that can be had, and the first such order of the fewest rooms."""
    require_worths(house, worths)
    steps = steps_of(house)
    had = {opened: worth_of(worths, rooms_of(opened)) for opened in steps}
    worth = max(had.values())
    best = [opened for opened in steps if had[opened] == worth]
    fewest = min([len(rooms_of(opened)) for opened in best])
    return (worth, first_to(steps, {opened: True for opened in best if len(rooms_of(opened)) == fewest}))


def worth_paper(house, worths):
    """A paper that no more than the most worth can be had: all sets of rooms that orders open, sorted."""
    require_worths(house, worths)
    return sorted([rooms_of(opened) for opened in steps_of(house)])


def is_rising(things):
    """Whether each thing stands ahead of the next one."""
    return all([one < other for one, other in zip(things, things[1:])])


def is_set(thing, many):
    """Whether anything is a set of rooms of a house with so many, as a sorted list."""
    if not isinstance(thing, list):
        return False
    return all([is_whole(number) and 0 <= number < many for number in thing]) and is_rising(thing)


def are_sets(thing, many):
    """Whether anything is a list of sets of rooms, each once, sorted."""
    return isinstance(thing, list) and all([is_set(inner, many) for inner in thing]) and is_rising(thing)


def is_closed(house, paper):
    """Whether with each set all are there that come by opening one more room."""
    doors = Doors(house)
    there = {set_of(numbers): True for numbers in paper}
    for numbers in paper:
        opened = set_of(numbers)
        further = doors.next_behind(opened, doors.hand_of(numbers))
        if not all([with_room(opened, number) in there for number in further]):
            return False
    return True


def worth_shows(house, worths, paper, worth):
    """Whether the paper shows that no more than the worth can be had."""
    require_worths(house, worths)
    if not is_whole(worth) or not are_sets(paper, len(house[1])) or [] not in paper:
        return False
    if any([worth_of(worths, numbers) > worth for numbers in paper]):
        return False
    return is_closed(house, paper)
