"""What several tests use: houses of all sorts, things that are none, and slow but plain reckoning."""

import contextlib
import copy
import itertools
import random
import signal

LETTERS = "abcdefghijklmnopqrstuvwxyz"

GOOD_KINDS = ["a", "z", "ab", "ba", "abc", "abcd", "zzzz", "aaaa"]

BAD_KINDS = [
    "", "abcde", "abcdefghijkl", "A", "aB", "Ab", "ABCD", "a b", " a", "a ", "a1", "1", "12", "-", "a-b", "a+b",
    "a_", "a.", "{", "`", "~", "\n", "a\n", "\ta", " ", b"a", 0, 1, True, False, None, [], ["a"], ("a",), {}, {"a": 1},
    {"a"}, object(), str, len,
]

GOOD_LOCKS = [["a"], ["abcd"], ["a", "a"], ["a", "b"], ["aa", "b"], ["a", "aa"], ["a", "b", "b"],
              ["a", "a", "a", "a"], ["a", "b", "c", "d"]]

BAD_LOCKS = [[], ["a", "a", "a", "a", "a"], ["a", "b", "c", "d", "e"], ["b", "a"], ["b", "aa"], ["aa", "a"],
             ["a", "c", "b"], ("a",), ("a", "b"), "a", "ab", {"a": 1}, {"a"}, None, 1, True, b"a", [["a"]], [("a",)]]

BAD_KEYS = [(), ("a",), "a", "", {}, {"a": 1}, set(), None, 0, True, b"a", [["a"]], [[]], [("a",)], object()]

BAD_ROOMS = [None, True, 3, "ab", b"ab", [], (), ["a"], [["a"], []], [["a"], ["b"]], (["a"],), (["a"], [], []),
             (["a"], ["b"], None), ([], ["a"]), {"a": []}, {"locks": ["a"]}, ("a", "b"), ("a", []), (["a"], "b"),
             (None, []), (["a"], None), ((["a"], []),), [(["a"], [])], object()]

NOT_PLAIN = [([], [(["a", "b"], [])]), (["a", "a"], [(["a", "a"], [])]), (["a"], [(["a"], []), (["b", "c"], [])]),
             (["a", "b"], [(["a", "b"], ["a"]), (["a"], [])])]

NO_LISTS = [None, True, 0, 1, "", "0", b"", (), (0,), {}, {0: 1}, set(), object(), range(0), (("a",), [])]


def endless_list():
    """A list that holds itself."""
    endless = []
    endless.append(endless)
    return endless


def deep_list():
    """Lists within lists, deeper than calls may go."""
    deep = []
    for each in range(100000):
        deep = [deep]
    return deep


def not_houses():
    """Things that are no house, new at each call."""
    things = [
        None, True, False, 0, 1, -1, 10 ** 30, "", "a", "house", "([], [])", b"", b"ab", [], (), {}, set(), frozenset(),
        object(), len, int, ValueError("a"), range(2), [[], []], ["a", []], ([],), ([], [], []), ([], [], None),
        ((), []), ([], ()), ("", []), ([], ""), ({}, []), ([], {}), (None, []), ([], None), (0, 0), ("a", "b"),
        ([], [[]]), ([], [()]), ([(["a"], [])], ["a"]), ([], (["a"], [])), ([], {0: (["a"], [])}), ({"a"}, []),
        ([], [([], [])]), ([[]], []), ([], [None]), {"keys": [], "rooms": []}, {0: [], 1: []},
        endless_list(), (endless_list(), []), ([], endless_list()), ([], [(endless_list(), [])]),
        deep_list(), (deep_list(), []), ([], [(["a"], deep_list())]),
    ]
    for kind in BAD_KINDS:
        things.append(([kind], []))
        things.append((["a", kind], []))
        things.append(([], [([kind], [])]))
        things.append(([], [(["a"], [kind])]))
        things.append(([], [(["a"], []), (["a"], ["b", kind])]))
    for locks in BAD_LOCKS:
        things.append(([], [(locks, [])]))
        things.append((["a"], [(["a"], ["b"]), (locks, [])]))
    for keys in BAD_KEYS:
        things.append((keys, []))
        things.append(([], [(["a"], keys)]))
        things.append(([], [(["a"], []), (["a"], keys)]))
    for room in BAD_ROOMS:
        things.append(([], [room]))
        things.append((["a"], [(["a"], []), room, (["a"], [])]))
    return things


def opened(house, order):
    """The keys in hand behind an order, sorted, or None where it may not be gone."""
    hand = list(house[0])
    for at, number in enumerate(order):
        if number in order[:at]:
            return None
        locks, keys = house[1][number]
        for kind in locks:
            if kind not in hand:
                return None
            hand.remove(kind)
        hand = hand + keys
    return sorted(hand)


def every_order(house):
    """Every order of the house that may be gone, of some rooms or of all."""
    found = [[]]
    for order in found:
        for number in range(len(house[1])):
            if number not in order and opened(house, order + [number]) is not None:
                found.append(order + [number])
    return found


def whole_orders(house):
    """Every order of all rooms, in order."""
    return sorted(order for order in every_order(house) if len(order) == len(house[1]))


def stuck_orders(house):
    """Every order behind which none that is left may be opened, in order."""
    orders = every_order(house)
    longer = {tuple(order[:-1]) for order in orders if order}
    return sorted(order for order in orders if tuple(order) not in longer)


def can_be_opened(house):
    """Whether all rooms can be opened, by trying each set of opened rooms."""
    whole = frozenset(range(len(house[1])))
    seen = {frozenset(): []}
    waiting = [frozenset()]
    while waiting:
        done = waiting.pop()
        for number in sorted(whole - done):
            more = done | {number}
            order = seen[done] + [number]
            if more not in seen and opened(house, order) is not None:
                seen[more] = order
                waiting.append(more)
    return whole in seen


def fewest(house):
    """The fewest keys to be bought, by trying all lists of keys, fewer ones first."""
    kinds = sorted({lock for locks, inner in house[1] for lock in locks})
    for many in itertools.count():
        for keys in itertools.combinations_with_replacement(kinds, many):
            if can_be_opened((house[0] + list(keys), house[1])):
                return many


def some_houses(seed, many, most_locks, most_rooms=5):
    """Small houses of few kinds, the same ones at each call."""
    chance = random.Random(seed)
    houses = []
    for each in range(many):
        kinds = ["c", "a", "bb", "b"][:chance.randint(1, 4)]
        keys = [chance.choice(kinds) for key in range(chance.randint(0, 3))]
        rooms = []
        for number in range(chance.randint(0, most_rooms)):
            locks = sorted(chance.choice(kinds) for lock in range(chance.randint(1, most_locks)))
            rooms.append((locks, [chance.choice(kinds) for key in range(chance.choice([0, 0, 1, 1, 1, 2, 3]))]))
        houses.append((keys, rooms))
    return houses


def mixed_houses(seed):
    """Small houses of one lock at a door and of several."""
    return some_houses(seed, 150, 1) + some_houses(seed + 1, 200, 2) + some_houses(seed + 2, 100, 4)


def kind_called(number):
    """A kind of its own for each number."""
    return LETTERS[number // 26] + LETTERS[number % 26]


def row_house(many):
    """A house whose rooms open one behind the other, the first one last in number."""
    rooms = [([kind_called(number)], [kind_called(number + 1)]) for number in range(many)]
    return ([kind_called(0)], rooms[::-1])


def large_houses():
    """Plain houses of sixty rooms and 280 keys, all of whose rooms can be opened."""
    traps = [(["t"], []) for number in range(29)]
    row = [(["t"], [kind_called(0)])]
    row += [([kind_called(number)], [kind_called(number + 1)]) for number in range(29)]
    row += [([kind_called(29)], ["t"] * 249)]
    ahead = (["t"], traps + row)
    behind = (["t"], row[::-1] + traps)
    pairs = []
    for number in range(20):
        pairs += [(["t"], []), (["t"], [kind_called(number)]), ([kind_called(number)], ["t"] * 12)]
    rounds = (["t"] * 20, pairs)
    houses = [ahead, behind, rounds]
    houses.append((["t"] * 60 + ["u"] * 220, [(["t"], []) for number in range(60)]))
    return houses


def free_house(many, most_locks=1):
    """A house whose rooms may be opened in any order."""
    return (["a"] * (many * most_locks), [(["a"] * most_locks, ["z"]) for number in range(many)])


def too_large_houses():
    """Houses of thirteen rooms and of sixty, plain and not, with orders of all rooms and without."""
    houses = [free_house(13), free_house(13, 2), free_house(60), free_house(60, 4), row_house(13), row_house(60)]
    houses.append(([], [(["a"], []) for number in range(13)]))
    houses.append((["a"], [(["a"], ["a"]) for number in range(12)] + [(["a", "b"], [])]))
    return houses


def kinds_of(house):
    """The kinds that a house has, of a key or a lock, sorted."""
    return sorted(set(house[0]) | {kind for room in house[1] for part in room for kind in part})


def renamed(house, naming):
    """The house with its kinds named by a dict, locks and keys sorted."""
    rooms = [tuple(sorted(naming[kind] for kind in part) for part in room) for room in house[1]]
    return (sorted(naming[kind] for kind in house[0]), rooms)


def keys_sorted(house):
    """The house with its keys sorted."""
    return renamed(house, {kind: kind for kind in kinds_of(house)})


def key_number(house):
    """How many keys a house has in all."""
    return len(house[0]) + sum(len(keys) for locks, keys in house[1])


def held(thing):
    """All lists and dicts within a thing, itself too."""
    if isinstance(thing, dict):
        return [thing] + [inner for value in thing.values() for inner in held(value)]
    if isinstance(thing, (list, tuple)):
        own = [thing] if isinstance(thing, list) else []
        return own + [inner for value in thing for inner in held(value)]
    return []


def told(case, deed, *handed):
    """What the deed tells, once it is seen that nothing handed in is changed or told."""
    before = copy.deepcopy(handed)
    answer = deed(*handed)
    case.assertEqual(repr(handed), repr(before))
    inner = [id(thing) for thing in held(answer)]
    case.assertEqual(len(inner), len(set(inner)))
    case.assertFalse(set(inner) & {id(thing) for thing in held(handed)})
    return answer


def refused(case, error, deed, *handed):
    """The refusal, once it is seen that it is just of this class."""
    try:
        answer = deed(*handed)
    except ValueError as refusal:
        case.assertIs(type(refusal), error)
        case.assertIsInstance(str(refusal), str)
        return refusal
    case.fail(f"{answer!r} was told where {error.__name__} is due")


@contextlib.contextmanager
def soon(seconds=60):
    """Fail what does not end: whoever goes through all orders never does."""
    def ring(number, frame):
        raise AssertionError(f"no answer within {seconds} seconds")
    former = signal.signal(signal.SIGALRM, ring)
    signal.alarm(seconds)
    try:
        yield
    finally:
        signal.alarm(0)
        signal.signal(signal.SIGALRM, former)
