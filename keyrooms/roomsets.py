"""Sets of opened rooms of a small house, each kept as a whole number whose bits stand for its rooms."""

from keyrooms.errors import TooMany
from keyrooms.houses import require_house

MOST_ROOMS = 12


def require_small(thing, most=MOST_ROOMS):
    """Refuse what is no house, then a house of too many rooms."""
    require_house(thing)
    if len(thing[1]) > most:
        raise TooMany(f"this house has more than {most} rooms")


def with_room(opened, number):
    """The set with a further room."""
    return opened | (1 << number)


def has_room(opened, number):
    """Whether the room is in the set."""
    return (opened >> number) & 1 == 1


def set_of(numbers):
    """The set of these rooms."""
    opened = 0
    for number in numbers:
        opened = with_room(opened, number)
    return opened


def set_of_all(house):
    """The set of all rooms of the house."""
    return (1 << len(house[1])) - 1


def rooms_of(opened):
    """The numbers of the set's rooms, rising, as a new list."""
    return [number for number in range(opened.bit_length()) if has_room(opened, number)]


class Doors:
    """What doors want and change in a hand, which counts keys of the locks' kinds: others serve nowhere."""

    def __init__(self, house):
        keys, rooms = house
        kinds = sorted({kind for locks, within in rooms for kind in locks})
        self.at_first = [keys.count(kind) for kind in kinds]
        # Most doors touch few kinds, so each has pairs of a kind's place and a number for these alone.
        self.wants = [[(place, locks.count(kind)) for place, kind in enumerate(kinds) if kind in locks]
                      for locks, within in rooms]
        self.changes = [[(place, within.count(kind) - locks.count(kind)) for place, kind in enumerate(kinds)
                         if kind in locks or kind in within] for locks, within in rooms]

    def hand_with(self, hand, number):
        """The hand once the room is opened, as a new list."""
        behind = list(hand)
        for place, change in self.changes[number]:
            behind[place] += change
        return behind

    def hand_of(self, numbers):
        """The hand once these rooms are opened, also where no order opens them: counts may then be below 0."""
        hand = list(self.at_first)
        for number in numbers:
            hand = self.hand_with(hand, number)
        return hand

    def next_behind(self, opened, hand):
        """The rooms out of the set for whose locks the hand has enough, rising."""
        return [number for number, wants in enumerate(self.wants)
                if not has_room(opened, number) and all([hand[place] >= many for place, many in wants])]


def steps_of(house):
    """For each set that an order opens the rooms that may be opened next, rising; sets of fewer rooms go ahead."""
    doors = Doors(house)
    steps = {}
    # The keys in hand hang on the set alone, so each set is looked at once, however many orders open it.
    level = {0: doors.at_first}
    while level:
        further = {}
        for opened, hand in level.items():
            numbers = doors.next_behind(opened, hand)
            steps[opened] = numbers
            for number in numbers:
                behind = with_room(opened, number)
                if behind not in further:
                    further[behind] = doors.hand_with(hand, number)
        level = further
    return steps
