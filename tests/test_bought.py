"""Points [4], [13] and [14]: keys bought, and papers that so many are wanted."""

import itertools
import random
import unittest

from keyrooms.bought import buying_paper, buying_shows, keys_to_buy
from keyrooms.errors import NoPlain
from keyrooms.opening import told_opening

from helper import (NOT_PLAIN, can_be_opened, fewest, free_house, kind_called, large_houses, refused, row_house,
                    some_houses, soon, told)

# Two keys of kind t are lacking, the rings of a, b and of c are shut, and d lies behind c.
WANTING = (["x", "t"], [(["a"], ["b"]), (["b"], ["a", "a"]), (["c"], ["c", "d"]), (["d"], []), (["t"], []),
                        (["t"], ["x"]), (["t"], []), (["x"], [])])


def counted(house):
    """How many locks of each kind are more than keys of it, where they are."""
    keys = list(house[0]) + [key for locks, inner in house[1] for key in inner]
    locks = [lock for locks, inner in house[1] for lock in locks]
    return {kind: locks.count(kind) - keys.count(kind) for kind in set(locks) if locks.count(kind) > keys.count(kind)}


def shut(house, part):
    """Whether no key of the part is outside of it, while a lock is of it."""
    loose = list(house[0]) + [key for locks, inner in house[1] if locks[0] not in part for key in inner]
    return not set(loose) & set(part) and any(locks[0] in part for locks, inner in house[1])


def shows_by_words(house, paper, many):
    """Whether a paper shows a number, word by word."""
    lacks, parts = paper
    due = counted(house)
    for kind in lacks:
        if kind not in due or lacks[kind] != due[kind]:
            return False
    for at, part in enumerate(parts):
        if sorted(set(part)) != part or not shut(house, part) or set(part) & set(lacks):
            return False
        if any(set(part) & set(other) for other in parts[:at]):
            return False
    return many <= sum(lacks.values()) + len(parts)


def ring_houses(seed, many):
    """Small houses in which about as many keys as locks of each kind lie behind one another, the same ones each call."""
    chance = random.Random(seed)
    houses = []
    for each in range(many):
        locks = [chance.choice(["c", "a", "bb", "b"]) for number in range(chance.randint(2, 5))]
        rooms = [([lock], []) for lock in locks]
        for key in locks + chance.choice([[], [], ["a"], ["z"]]):
            if chance.random() < 0.9:
                chance.choice(rooms)[1].append(key)
        houses.append((chance.choice([[], [], ["z"], ["a"]]), rooms))
    return houses


def with_bought(house, keys):
    """The house with further keys at the beginning."""
    return (house[0] + keys, house[1])


def wanting_houses():
    """Houses of sixty rooms with how many keys must be bought for each."""
    kinds = [kind_called(number) for number in range(60)]
    houses = [(([], [(["a"], []) for number in range(60)]), 60)]
    houses.append(((["a"] * 7, [(["a"], ["z"] * 4) for number in range(60)]), 53))
    houses.append((([], [([kind], [kind]) for kind in kinds]), 60))
    houses.append((([], [([kind], []) for kind in kinds]), 60))
    pairs = [([kinds[number]], [kinds[number + 1 - 2 * (number % 2)]]) for number in range(60)]
    houses.append((([], pairs), 30))
    houses.append((([], [([kinds[number]], [kinds[(number + 1) % 60]]) for number in range(60)]), 1))
    houses.append((([], row_house(60)[1]), 1))
    # Rings that all lead into one, and one that leads into all of them.
    rings = [([kind], [kind, "zz"]) for kind in kinds[:59]]
    houses.append((([], rings + [(["zz"], ["zz"])]), 59))
    houses.append((([], rings + [(["zz"], ["zz"] + kinds[:59])]), 1))
    houses.append(((["zz"], rings + [(["zz"], ["zz"])]), 59))
    houses.append(((["zz"], rings + [(["zz"], kinds[:59])]), 0))
    return houses


class KeysToBuy(unittest.TestCase):

    def bought(self, house):
        """The keys told, once they are seen to be a sorted list of kinds with which all rooms can be opened."""
        keys = told(self, keys_to_buy, house)
        self.assertIs(type(keys), list)
        self.assertTrue(all(type(kind) is str for kind in keys))
        self.assertEqual(keys, sorted(keys))
        self.assertEqual(told_opening(with_bought(house, keys))[0], "all")
        return keys

    def test_none_where_none_must_be(self):
        for house in [([], []), (["a"], []), (["a"], [(["a"], [])]), (["a"], [(["a"], ["b"]), (["b"], ["a"])])]:
            self.assertEqual(self.bought(house), [])
        for house in large_houses() + [row_house(60)]:
            self.assertEqual(self.bought(house), [])

    def test_lacking_keys(self):
        self.assertEqual(self.bought(([], [(["a"], [])])), ["a"])
        self.assertEqual(self.bought((["a"], [(["a"], []), (["a"], []), (["b"], []), (["a"], [])])), ["a", "a", "b"])
        self.assertEqual(self.bought(([], [(["b"], []), (["aa"], []), (["b"], [])])), ["aa", "b", "b"])

    def test_a_shut_ring_wants_one(self):
        self.assertEqual(self.bought(([], [(["a"], ["a"])])), ["a"])
        self.assertIn(self.bought(([], [(["a"], ["b"]), (["b"], ["a"])])), [["a"], ["b"]])
        self.assertEqual(len(self.bought(([], [(["a"], ["a"]), (["b"], ["b"])]))), 2)

    def test_what_a_ring_leads_to_wants_none(self):
        house = ([], [(["a"], ["a", "b"]), (["b"], ["c"]), (["c"], ["b", "c"])])
        self.assertEqual(self.bought(house), ["a"])

    def test_what_a_lacking_key_leads_to_wants_none(self):
        house = ([], [(["t"], ["a"]), (["a"], ["b"]), (["b"], ["a"])])
        self.assertEqual(self.bought(house), ["t"])
        house = (["x"], [(["x"], []), (["t"], []), (["t"], ["a"]), (["a"], ["t"])])
        self.assertEqual(self.bought(house), ["t"])

    def test_both(self):
        keys = self.bought(WANTING)
        self.assertIn(keys, [["a", "c", "t", "t"], ["b", "c", "t", "t"]])
        self.assertTrue(can_be_opened(with_bought(WANTING, keys)))

    def test_against_all_lists_of_keys(self):
        numbers = {}
        for house in some_houses(61, 300, 1) + some_houses(62, 100, 1, most_rooms=7) + ring_houses(66, 400):
            keys = self.bought(house)
            self.assertTrue(can_be_opened(with_bought(house, keys)))
            self.assertEqual(len(keys), fewest(house))
            parts = len(buying_paper(house)[1])
            numbers[parts] = numbers.get(parts, 0) + 1
        self.assertGreater(numbers[0], 100)
        self.assertGreater(numbers[1], 100)
        self.assertGreater(numbers[2], 10)

    def test_large_houses(self):
        with soon():
            for house, many in wanting_houses():
                self.assertEqual(len(self.bought(house)), many)

    def test_no_plain(self):
        for house in NOT_PLAIN + [free_house(60, 2)]:
            refused(self, NoPlain, keys_to_buy, house)


class ToldPaper(unittest.TestCase):

    def paper_of(self, house):
        """The paper told, once it is seen to have its form and to show just what must be bought."""
        paper = told(self, buying_paper, house)
        self.assertIs(type(paper), tuple)
        self.assertEqual([type(thing) for thing in paper], [dict, list])
        lacks, parts = paper
        self.assertTrue(all(type(many) is int and many > 0 for many in lacks.values()))
        self.assertTrue(all(type(part) is list and part == sorted(part) for part in parts))
        self.assertEqual(parts, sorted(parts))
        many = len(keys_to_buy(house))
        for number in list(range(-3, many + 1)) + [-10 ** 29]:
            self.assertIs(told(self, buying_shows, house, paper, number), True)
        for number in [many + 1, many + 2, many + 60, 10 ** 29]:
            self.assertIs(told(self, buying_shows, house, paper, number), False)
        self.assertTrue(shows_by_words(house, paper, many))
        self.assertFalse(shows_by_words(house, paper, many + 1))
        return paper

    def test_nothing(self):
        for house in [([], []), (["a"], []), (["a"], [(["a"], [])])]:
            self.assertEqual(self.paper_of(house), ({}, []))

    def test_lacks(self):
        self.assertEqual(self.paper_of(([], [(["b"], []), (["a"], []), (["b"], [])])), ({"a": 1, "b": 2}, []))
        self.assertEqual(self.paper_of((["a"], [(["a"], ["a"]), (["a"], []), (["a"], [])])), ({"a": 1}, []))

    def test_parts(self):
        self.assertEqual(self.paper_of(([], [(["b"], ["a"]), (["a"], ["b"])]))[1], [["a", "b"]])
        self.assertEqual(self.paper_of(([], [(["b"], ["b"]), (["a"], ["a"])]))[1], [["a"], ["b"]])

    def test_both(self):
        lacks, parts = self.paper_of(WANTING)
        self.assertEqual(lacks, {"t": 2})
        self.assertEqual(len(parts), 2)

    def test_small_houses(self):
        for house in some_houses(63, 200, 1, most_rooms=7) + ring_houses(67, 300):
            self.paper_of(house)

    def test_large_houses(self):
        with soon():
            for house, many in wanting_houses():
                lacks, parts = self.paper_of(house)
                self.assertEqual(sum(lacks.values()) + len(parts), many)

    def test_no_plain(self):
        for house in NOT_PLAIN + [free_house(60, 2)]:
            refused(self, NoPlain, buying_paper, house)


class BuyingShows(unittest.TestCase):

    def shown(self, house, paper):
        """The greatest number up to sixty that the paper shows, or None; below it each is shown."""
        truths = [told(self, buying_shows, house, paper, many) for many in range(-2, 61)]
        self.assertTrue(all(type(truth) is bool for truth in truths))
        self.assertEqual(truths, sorted(truths, reverse=True))
        return sum(truths) - 3 if truths[0] else None

    def test_nothing_shows_that_none_is_wanted(self):
        for house in [([], []), (["a"], [(["a"], [])]), WANTING]:
            self.assertEqual(self.shown(house, ({}, [])), 0)
            self.assertIs(told(self, buying_shows, house, ({}, []), -10 ** 29), True)
            self.assertIs(told(self, buying_shows, house, ({}, []), 10 ** 29), False)

    def test_papers_that_show_less_than_the_told_one(self):
        self.assertEqual(self.shown(WANTING, ({"t": 2}, [["a", "b"], ["c"]])), 4)
        self.assertEqual(self.shown(WANTING, ({"t": 2}, [["a", "b"]])), 3)
        self.assertEqual(self.shown(WANTING, ({}, [["a", "b"], ["c"]])), 2)
        self.assertEqual(self.shown(WANTING, ({"t": 2}, [["a", "b", "c", "d"]])), 3)
        self.assertEqual(self.shown(WANTING, ({"t": 2}, [])), 2)
        self.assertEqual(self.shown(WANTING, ({}, [["c"]])), 1)

    def test_parts_in_any_order_and_with_further_kinds(self):
        self.assertEqual(self.shown(WANTING, ({"t": 2}, [["c"], ["a", "b"]])), 4)
        self.assertEqual(self.shown(WANTING, ({"t": 2}, [["c", "d"], ["a", "b", "zz"]])), 4)

    def test_some_of_the_kinds_that_lack(self):
        house = ([], [(["a"], []), (["b"], []), (["b"], []), (["c"], ["c"])])
        self.assertEqual(self.shown(house, ({"b": 2, "a": 1}, [["c"]])), 4)
        self.assertEqual(self.shown(house, ({"b": 2}, [["c"]])), 3)
        # A kind that lacks keys may stand in a part, where it isn't told among those that lack.
        self.assertEqual(self.shown(house, ({"b": 2}, [["a"], ["c"]])), 4)
        self.assertEqual(self.shown(house, ({}, [["a"], ["b"], ["c"]])), 3)

    def test_wrong_lacks(self):
        for many in [-2, -1, 0, 1, 3, 4, 10 ** 29]:
            self.assertIsNone(self.shown(WANTING, ({"t": many}, [])))
            self.assertIsNone(self.shown(WANTING, ({"t": many}, [["a", "b"], ["c"]])))
        for kind in ["a", "c", "d", "x", "q", "zzzz"]:
            for many in [-1, 0, 1, 2]:
                self.assertIsNone(self.shown(WANTING, ({kind: many}, [])))
                self.assertIsNone(self.shown(WANTING, ({"t": 2, kind: many}, [])))
        house = ([], [(["a"], [])])
        self.assertEqual(self.shown(house, ({"a": 1}, [])), 1)
        for many in [True, False, "1", None, [1]]:
            self.assertIsNone(self.shown(house, ({"a": many}, [])))
        more = (["a", "a"], [(["a"], [])])
        for many in [-1, 0, 1]:
            self.assertIsNone(self.shown(more, ({"a": many}, [])))

    def test_wrong_parts(self):
        wrong = [[["a"]], [["b"]], [["d"]], [["x"]], [["t"]], [["a", "b", "x"]], [["q"]], [["zz"]], [["a", "b", "d"]]]
        for parts in wrong:
            self.assertIsNone(self.shown(WANTING, ({}, parts)))
            self.assertIsNone(self.shown(WANTING, ({"t": 2}, [["c"]] + parts)))

    def test_a_kind_in_two_parts(self):
        house = ([], [(["a"], ["b"]), (["b"], ["a", "b"]), (["c"], ["c"])])
        self.assertEqual(self.shown(house, ({}, [["a", "b"], ["c"]])), 2)
        self.assertIsNone(self.shown(house, ({}, [["a", "b"], ["a", "b", "c"]])))
        self.assertIsNone(self.shown(house, ({}, [["a", "b", "zz"], ["c", "zz"]])))

    def test_a_part_twice(self):
        self.assertIsNone(self.shown(WANTING, ({}, [["c"], ["c"]])))
        self.assertIsNone(self.shown(WANTING, ({"t": 2}, [["a", "b"], ["c"], ["a", "b"]])))

    def test_a_kind_in_lacks_and_in_a_part(self):
        house = ([], [(["a"], []), (["b"], ["b"])])
        self.assertEqual(self.shown(house, ({"a": 1}, [["b"]])), 2)
        self.assertEqual(self.shown(house, ({}, [["a"], ["b"]])), 2)
        self.assertIsNone(self.shown(house, ({"a": 1}, [["a"], ["b"]])))
        self.assertIsNone(self.shown(house, ({"a": 1}, [["a", "b"]])))

    def test_a_part_unsorted_or_with_a_kind_twice_or_empty(self):
        for part in [["b", "a"], ["a", "a", "b"], ["a", "b", "b"], ["b", "a", "b"], []]:
            self.assertIsNone(self.shown(WANTING, ({}, [part])))
            self.assertIsNone(self.shown(WANTING, ({"t": 2}, [["c"], part])))
        self.assertIsNone(self.shown(([], []), ({}, [[]])))

    def test_as_the_words_say(self):
        chance = random.Random(64)
        kinds = ["a", "b", "bb", "c", "zz"]
        lists = [list(some) for many in range(1, 5) for some in itertools.combinations(kinds, many)]
        shown = {}
        for house in some_houses(65, 100, 1) + ring_houses(68, 200):
            many = fewest(house)
            due = counted(house)
            for each in range(40):
                lacks = {kind: due[kind] for kind in sorted(due) if chance.random() < 0.6}
                if chance.random() < 0.1:
                    lacks[chance.choice(kinds)] = chance.randint(-1, 3)
                fitting = [part for part in lists if shut(house, part)] if chance.random() < 0.8 else lists
                parts = chance.sample(fitting, min(chance.randint(0, 3), len(fitting)))
                if chance.random() < 0.5:
                    apart = [part for part in fitting if not set(part) & set(sum(parts[:1], list(lacks)))]
                    parts = parts[:1] + chance.sample(apart, min(1, len(apart)))
                for number in range(-1, 6):
                    truth = told(self, buying_shows, house, (lacks, parts), number)
                    self.assertIs(truth, shows_by_words(house, (lacks, parts), number))
                    self.assertFalse(truth and number > many)
                    if truth and number > 0:
                        shown[len(parts)] = shown.get(len(parts), 0) + 1
        self.assertGreater(min(shown.get(many, 0) for many in [0, 1, 2]), 100)

    def test_long_papers(self):
        letters = "abcdefghij"
        kinds = sorted(one + two + three for one in letters for two in letters for three in "abcd")
        house = ([], [([kind], [kind]) for kind in kinds[:60]])
        with soon():
            self.assertIs(told(self, buying_shows, house, ({}, [kinds]), 1), True)
            self.assertIs(told(self, buying_shows, house, ({}, [kinds]), 2), False)
            self.assertIs(told(self, buying_shows, house, ({}, [[kind] for kind in kinds[:60]]), 60), True)
            self.assertIs(told(self, buying_shows, house, ({}, [[kind] for kind in kinds]), 60), False)
            self.assertIs(told(self, buying_shows, house, ({kind: 1 for kind in kinds}, []), 1), False)
            self.assertIs(told(self, buying_shows, house, ({}, [list(kinds) for each in range(400)]), 1), False)

    def test_no_plain(self):
        for house in NOT_PLAIN + [free_house(60, 2)]:
            for paper in [({}, []), ({"a": 1}, []), ({}, [["a"]]), ({}, [[]])]:
                refused(self, NoPlain, buying_shows, house, paper, 0)


if __name__ == "__main__":
    unittest.main()
