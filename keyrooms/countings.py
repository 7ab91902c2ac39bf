"""How many keys and locks of each kind a house has, and which kinds and rooms could come."""

from keyrooms.houses import require_house


def kinds_counted(house):
    """For each kind of the house how many keys and how many locks there are: (keys, locks)."""
    require_house(house)
    keys = list(house[0])
    locks = []
    for room_locks, within in house[1]:
        locks.extend(room_locks)
        keys.extend(within)
    return {kind: (keys.count(kind), locks.count(kind)) for kind in sorted(set(keys + locks))}


def rooms_by_lock(rooms):
    """For each kind of lock the numbers of the rooms that have it, each once."""
    numbers = {}
    for number, (locks, within) in enumerate(rooms):
        for kind in sorted(set(locks)):
            numbers.setdefault(kind, []).append(number)
    return numbers


def reached(keys, rooms):
    """The kinds that come, sorted, and the numbers of the rooms that could come, rising."""
    numbers = rooms_by_lock(rooms)
    # How many kinds of each room's locks have not come yet: so each lock is looked at once alone.
    wanted = [len(set(locks)) for locks, within in rooms]
    come = set()
    found = list(keys)
    while found:
        kind = found.pop()
        if kind in come:
            continue
        come.add(kind)
        for number in numbers.get(kind, []):
            wanted[number] -= 1
            if wanted[number] == 0:
                found.extend(rooms[number][1])
    return sorted(come), [number for number, many in enumerate(wanted) if many == 0]


def kinds_that_come(house):
    """The kinds that come, sorted."""
    require_house(house)
    kinds, numbers = reached(house[0], house[1])
    return kinds


def rooms_that_come(house):
    """The rooms all of whose locks' kinds come, rising."""
    require_house(house)
    kinds, numbers = reached(house[0], house[1])
    return numbers
