"""Needless keys, two kinds that may be one, and houses that are the same but for the names of their kinds."""

from keyrooms.countings import kinds_counted
from keyrooms.errors import NoKind
from keyrooms.houses import is_kind, require_house
from keyrooms.roomsets import require_small, steps_of

MOST_ROOMS_COMPARED = 8


def without_needless(house):
    """The house without the keys of kinds that no lock is of, all others as they stand."""
    require_house(house)
    keys, rooms = house
    wanted = {kind: True for locks, within in rooms for kind in locks}
    kept = [(list(locks), [kind for kind in within if kind in wanted]) for locks, within in rooms]
    return ([kind for kind in keys if kind in wanted], kept)


def require_two_kinds(house, first, other):
    """Refuse what are no two unlike kinds of the house."""
    # Only what is a kind may be looked for among kinds: of other things not all can be.
    if not is_kind(first) or not is_kind(other) or first == other:
        raise NoKind("these are no two unlike kinds")
    counts = kinds_counted(house)
    if first not in counts or other not in counts:
        raise NoKind("the house has not both of these kinds")


def house_of_one(house, first, other):
    """The house in which the other kind is named as the first."""
    keys, rooms = house

    def named(kinds):
        return [first if kind == other else kind for kind in kinds]

    return (named(keys), [(sorted(named(locks)), named(within)) for locks, within in rooms])


def may_be_one(house, first, other):
    """Whether the same orders may be gone where the other kind is named as the first."""
    require_small(house, MOST_ROOMS_COMPARED)
    require_two_kinds(house, first, other)
    # What may be opened next hangs on the set of opened rooms alone, so these steps tell all orders.
    return steps_of(house) == steps_of(house_of_one(house, first, other))


def places_of_kinds(house):
    """For each kind the places where it stands, rising, one as often as the kind stands there."""
    keys, rooms = house
    places = {}
    for kind in keys:
        places.setdefault(kind, []).append(0)
    for number, (locks, within) in enumerate(rooms):
        for kind in locks:
            places.setdefault(kind, []).append(2 * number + 1)
        for kind in within:
            places.setdefault(kind, []).append(2 * number + 2)
    return places


def named_kinds(one, other):
    """A naming of the kinds that makes the one house the other, keys in any order, or None."""
    require_house(one)
    require_house(other)
    # A naming must give each kind one that stands at the same places, and any such naming does.
    mine = sorted([(places, kind) for kind, places in places_of_kinds(one).items()])
    others = sorted([(places, kind) for kind, places in places_of_kinds(other).items()])
    # Each room has a lock, so houses with unlike numbers of rooms are unlike here too.
    if [places for places, kind in mine] != [places for places, kind in others]:
        return None
    return {kind: name for (places, kind), (same, name) in zip(mine, others)}
