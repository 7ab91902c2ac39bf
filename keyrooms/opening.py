"""Whether all rooms of a plain house can be opened, and what bars it, if not."""

from keyrooms.countings import kinds_counted, kinds_that_come, reached
from keyrooms.houses import are_kinds, hand_behind, is_kind, is_whole, require_plain, serves


def few_paper(house):
    """The paper of the first kind that has more locks than keys, or None."""
    counts = kinds_counted(house)
    for kind in sorted(counts):
        keys, locks = counts[kind]
        if locks > keys:
            return ("few", kind, keys, locks)
    return None


def shut_kinds(house):
    """The kinds of locks that do not come, sorted."""
    come = kinds_that_come(house)
    return sorted({locks[0] for locks, within in house[1] if locks[0] not in come})


def is_safe(hand, rooms, left, number):
    """Whether the room may be opened, and each other room that is left could still come behind it."""
    if not serves(hand, rooms[number][0]):
        return False
    behind = hand_behind(hand, rooms[number])
    rest = [rooms[other] for other in left if other != number]
    kinds, numbers = reached(behind, rest)
    return len(numbers) == len(rest)


def order_of_all(house):
    """The first order of all rooms of a plain house that nothing bars."""
    hand, rooms = house
    left = list(range(len(rooms)))
    order = []
    while left:
        # A door takes one key and one lock of a kind, so no kind gets short. What is left stands
        # as a house that nothing bars just where each room still comes, so a safe one is always there,
        # and the lowest safe one at each step makes the first order.
        at = 0
        while not is_safe(hand, rooms, left, left[at]):
            at += 1
        number = left.pop(at)
        hand = hand_behind(hand, rooms[number])
        order.append(number)
    return order


def told_opening(house):
    """("all", order), ("few", kind, keys, locks) or ("shut", kinds) of a plain house."""
    require_plain(house)
    few = few_paper(house)
    if few is not None:
        return few
    kinds = shut_kinds(house)
    if kinds:
        return ("shut", kinds)
    return ("all", order_of_all(house))


def few_bars(house, kind, keys, locks):
    """Whether the house has just so many keys and locks of the kind, and more locks."""
    if not is_kind(kind) or not is_whole(keys) or not is_whole(locks):
        return False
    return locks > keys and kinds_counted(house).get(kind) == (keys, locks)


def shut_bars(house, kinds):
    """Whether keys of these kinds lie behind locks of these kinds alone, and there is such a lock."""
    if not are_kinds(kinds) or kinds != sorted(set(kinds)):
        return False
    keys, rooms = house
    outside = list(keys)
    for locks, within in rooms:
        if locks[0] not in kinds:
            outside.extend(within)
    if any([kind in kinds for kind in outside]):
        return False
    return any([locks[0] in kinds for locks, within in rooms])


def bars_house(house, paper):
    """Whether the paper is one that bars the plain house."""
    require_plain(house)
    if not isinstance(paper, tuple):
        return False
    if len(paper) == 4 and paper[0] == "few":
        return few_bars(house, paper[1], paper[2], paper[3])
    if len(paper) == 2 and paper[0] == "shut":
        return shut_bars(house, paper[1])
    return False
