"""Points [4], [10] and [11]: whether all rooms can be opened, and what bars it."""

import itertools
import unittest

from keyrooms.errors import NoPlain
from keyrooms.opening import bars_house, told_opening

from helper import NOT_PLAIN, can_be_opened, large_houses, opened, refused, row_house, some_houses, soon, told

PAPERS = [("few", "a", 0, 1), ("few", "b", 0, 1), ("shut", ["a"]), ("shut", []), ("shut", ["b", "a"])]


def houses_of(kinds, locks):
    """All houses with one such lock at each door and at most one key in a place."""
    within = [[]] + [[kind] for kind in kinds] + [list(kinds)]
    for keys in within:
        for hidden in itertools.product(within, repeat=len(locks)):
            yield (list(keys), [([lock], list(inner)) for lock, inner in zip(locks, hidden)])


class ToldOpening(unittest.TestCase):

    def order_told(self, house):
        """The order told, once it is seen to open all rooms."""
        answer = told(self, told_opening, house)
        self.assertIs(type(answer), tuple)
        self.assertEqual(len(answer), 2)
        self.assertEqual(answer[0], "all")
        self.assertIs(type(answer[1]), list)
        self.assertEqual(sorted(answer[1]), list(range(len(house[1]))))
        self.assertIsNotNone(opened(house, answer[1]))
        return answer[1]

    def test_without_rooms(self):
        self.assertEqual(told(self, told_opening, ([], [])), ("all", []))
        self.assertEqual(told(self, told_opening, (["a"], [])), ("all", []))

    def test_only_one_order(self):
        self.assertEqual(self.order_told((["a"], [(["a"], [])])), [0])
        house = (["a"], [(["c"], []), (["b"], ["c"]), (["a"], ["b"])])
        self.assertEqual(self.order_told(house), [2, 1, 0])

    def test_more_keys_than_locks(self):
        self.order_told((["a", "a", "z"], [(["a"], ["b", "b", "a"]), (["b"], ["y"])]))

    def test_with_care_about_which_room_is_first(self):
        # The one key serves for the dead end or for the room that leads to a further such key.
        house = [(["a"], ["x"]), (["a"], ["b"]), (["b"], ["a"])]
        for rooms in itertools.permutations(house):
            self.order_told((["a"], list(rooms)))

    def test_with_care_at_each_step(self):
        house = [(["a"], []), (["a"], ["b"]), (["b"], ["c"]), (["b"], []), (["c"], ["b", "d"]), (["d"], ["a"])]
        for rooms in itertools.permutations(house):
            self.order_told((["a"], list(rooms)))

    def test_two_keys_that_must_not_both_be_lost(self):
        house = [(["a"], []), (["b"], []), (["a"], ["b"]), (["b"], ["a"])]
        for rooms in itertools.permutations(house):
            self.order_told((["a", "b"], list(rooms)))

    def test_few(self):
        self.assertEqual(told(self, told_opening, ([], [(["a"], [])])), ("few", "a", 0, 1))
        house = (["a", "b"], [(["a"], ["a"]), (["a"], []), (["a"], []), (["b"], [])])
        self.assertEqual(told(self, told_opening, house), ("few", "a", 2, 3))

    def test_few_of_the_first_kind_as_texts(self):
        house = (["c"], [(["b"], []), (["aa"], []), (["ab"], []), (["c"], []), (["b"], [])])
        self.assertEqual(told(self, told_opening, house), ("few", "aa", 0, 1))
        house = (["a"], [(["b"], []), (["b"], []), (["a"], []), (["az"], ["b"]), (["abcd"], ["az", "abcd"])])
        self.assertEqual(told(self, told_opening, house), ("few", "b", 1, 2))

    def test_few_goes_ahead_of_shut(self):
        house = (["z"], [(["a"], ["a"]), (["z"], []), (["z"], [])])
        self.assertEqual(told(self, told_opening, house), ("few", "z", 1, 2))
        house = ([], [(["b"], ["b"]), (["a"], [])])
        self.assertEqual(told(self, told_opening, house), ("few", "a", 0, 1))

    def test_shut(self):
        self.assertEqual(told(self, told_opening, ([], [(["a"], ["a"])])), ("shut", ["a"]))
        house = (["x"], [(["b"], ["a"]), (["x"], []), (["a"], ["b"])])
        self.assertEqual(told(self, told_opening, house), ("shut", ["a", "b"]))

    def test_shut_tells_kinds_of_locks_alone(self):
        house = (["x"], [(["b"], ["b", "c", "a", "x"]), (["x"], ["y"])])
        self.assertEqual(told(self, told_opening, house), ("shut", ["b"]))

    def test_shut_tells_all_of_them_once_and_sorted(self):
        rooms = [(["c"], ["c", "c"]), (["c"], []), (["b"], ["aa"]), (["aa"], ["b"]), (["ab"], ["ab"]), (["x"], [])]
        self.assertEqual(told(self, told_opening, (["x"], rooms)), ("shut", ["aa", "ab", "b", "c"]))

    def test_keys_in_hand_but_none_of_use(self):
        self.assertEqual(told(self, told_opening, (["x"], [(["a"], ["a"])])), ("shut", ["a"]))

    def test_no_plain(self):
        for house in NOT_PLAIN:
            before = repr(house)
            refused(self, NoPlain, told_opening, house)
            self.assertEqual(repr(house), before)

    def test_just_where_all_can_be_opened(self):
        words = {"all": 0, "few": 0, "shut": 0}
        houses = some_houses(31, 1200, 1, most_rooms=6)
        houses += list(houses_of(["a", "b"], ["a", "a", "b"])) + list(houses_of(["a", "b"], ["a", "b", "b", "c"]))
        for house in houses:
            answer = told(self, told_opening, house)
            words[answer[0]] += 1
            self.assertEqual(answer[0] == "all", can_be_opened(house))
            if answer[0] == "all":
                self.order_told(house)
            else:
                self.assertIs(told(self, bars_house, house, answer), True)
        self.assertGreater(min(words.values()), 100)

    def test_large_houses(self):
        with soon():
            for house in large_houses():
                self.order_told(house)
            self.order_told(row_house(60))
            keys, rooms = row_house(60)
            self.assertEqual(told(self, told_opening, ([], rooms))[0], "few")
            ring = rooms + [(["x"], [keys[0], "x"])]
            answer = told(self, told_opening, ([], ring[1:]))
            self.assertEqual((answer[0], len(answer[1])), ("shut", 60))


class BarsHouse(unittest.TestCase):

    def bars(self, house, paper):
        """Whether the paper bars, once it is seen to be told as a truth."""
        answer = told(self, bars_house, house, paper)
        self.assertIs(type(answer), bool)
        return answer

    def test_few(self):
        house = (["a", "c"], [(["a"], ["a"]), (["a"], []), (["a"], ["b"]), (["b"], ["d"]), (["c"], [])])
        self.assertTrue(self.bars(house, ("few", "a", 2, 3)))
        for keys, locks in itertools.product(range(-1, 5), repeat=2):
            self.assertEqual(self.bars(house, ("few", "a", keys, locks)), (keys, locks) == (2, 3))
            self.assertFalse(self.bars(house, ("few", "b", keys, locks)))
            self.assertFalse(self.bars(house, ("few", "c", keys, locks)))
            self.assertFalse(self.bars(house, ("few", "d", keys, locks)))
            self.assertFalse(self.bars(house, ("few", "zzzz", keys, locks)))

    def test_few_that_is_not_the_told_one(self):
        house = ([], [(["a"], []), (["b"], [])])
        self.assertTrue(self.bars(house, ("few", "a", 0, 1)))
        self.assertTrue(self.bars(house, ("few", "b", 0, 1)))

    def test_few_of_a_kind_without_keys_or_with_as_many(self):
        self.assertTrue(self.bars(([], [(["a"], []), (["a"], [])]), ("few", "a", 0, 2)))
        self.assertFalse(self.bars((["a"], [(["a"], [])]), ("few", "a", 1, 1)))
        self.assertFalse(self.bars((["a", "a"], [(["a"], [])]), ("few", "a", 2, 1)))
        self.assertFalse(self.bars(([], []), ("few", "a", 0, 0)))

    def test_few_of_great_numbers(self):
        house = ([], [(["a"], [])])
        for keys, locks in [(0, 10 ** 29), (-10 ** 29, 1), (-1, 0), (10 ** 29, 10 ** 30 - 1)]:
            self.assertFalse(self.bars(house, ("few", "a", keys, locks)))

    def test_shut(self):
        house = (["x"], [(["a"], ["b"]), (["b"], ["a"]), (["x"], ["y"]), (["c"], ["c", "a"])])
        self.assertTrue(self.bars(house, ("shut", ["a", "b", "c"])))
        self.assertTrue(self.bars(house, ("shut", ["c"])))

    def test_shut_with_a_key_at_the_beginning(self):
        self.assertFalse(self.bars((["a"], [(["a"], [])]), ("shut", ["a"])))
        self.assertFalse(self.bars((["x", "b"], [(["a"], ["b"]), (["b"], ["a"])]), ("shut", ["a", "b"])))

    def test_shut_with_a_key_in_a_room_outside(self):
        house = (["x"], [(["a"], ["a"]), (["x"], ["a"])])
        self.assertFalse(self.bars(house, ("shut", ["a"])))
        self.assertFalse(self.bars(([], [(["a"], ["b"]), (["b"], ["a"])]), ("shut", ["a"])))
        self.assertFalse(self.bars(([], [(["a"], ["b"]), (["b"], ["a"])]), ("shut", ["b"])))
        self.assertTrue(self.bars(([], [(["a"], ["b"]), (["b"], ["a"])]), ("shut", ["a", "b"])))

    def test_shut_without_such_a_lock(self):
        house = (["x"], [(["x"], []), (["a"], ["k"])])
        self.assertFalse(self.bars(house, ("shut", [])))
        self.assertFalse(self.bars(house, ("shut", ["zz"])))
        self.assertFalse(self.bars(([], [(["a"], ["k"])]), ("shut", ["k"])))
        self.assertFalse(self.bars(([], []), ("shut", [])))
        self.assertFalse(self.bars(([], []), ("shut", ["a"])))

    def test_shut_with_further_kinds_that_have_no_key_outside(self):
        house = (["x"], [(["x"], []), (["a"], ["k"])])
        self.assertTrue(self.bars(house, ("shut", ["a"])))
        self.assertTrue(self.bars(house, ("shut", ["a", "k"])))
        self.assertTrue(self.bars(house, ("shut", ["a", "zz"])))
        self.assertFalse(self.bars(house, ("shut", ["a", "x"])))

    def test_shut_unsorted_or_twice(self):
        house = ([], [(["a"], ["b"]), (["b"], ["aa"]), (["aa"], ["a"])])
        self.assertTrue(self.bars(house, ("shut", ["a", "aa", "b"])))
        for kinds in itertools.permutations(["a", "aa", "b"]):
            self.assertEqual(self.bars(house, ("shut", list(kinds))), kinds == ("a", "aa", "b"))
        self.assertFalse(self.bars(house, ("shut", ["a", "a", "aa", "b"])))
        self.assertFalse(self.bars(house, ("shut", ["a", "aa", "b", "b"])))
        self.assertFalse(self.bars(([], [(["a"], [])]), ("shut", ["a", "a"])))

    def test_no_plain(self):
        for house in NOT_PLAIN:
            for paper in PAPERS:
                before = repr((house, paper))
                refused(self, NoPlain, bars_house, house, paper)
                self.assertEqual(repr((house, paper)), before)

    def test_as_the_words_say(self):
        kinds = ["a", "b", "bb", "c", "zz"]
        lists = [list(some) for many in range(6) for some in itertools.combinations(kinds, many)]
        barred = 0
        for house in some_houses(32, 150, 1):
            openable = can_be_opened(house)
            for some in lists:
                loose = list(house[0]) + [key for locks, keys in house[1] if locks[0] not in some for key in keys]
                due = not set(loose) & set(some) and any(locks[0] in some for locks, keys in house[1])
                self.assertEqual(self.bars(house, ("shut", some)), due)
                barred += due
                self.assertFalse(due and openable)
        self.assertGreater(barred, 100)

    def test_no_few_paper_bars_what_can_be_opened(self):
        barred = 0
        for house in some_houses(33, 150, 1):
            openable = can_be_opened(house)
            for kind, keys, locks in itertools.product(["a", "b", "bb", "c", "zz"], range(5), range(5)):
                if self.bars(house, ("few", kind, keys, locks)):
                    barred += 1
                    self.assertFalse(openable)
        self.assertGreater(barred, 50)

    def test_long_papers(self):
        letters = "abcdefghij"
        kinds = sorted(one + two + three for one in letters for two in letters for three in "abcd")
        self.assertEqual(len(kinds), 400)
        self.assertFalse(self.bars(row_house(60), ("shut", kinds)))
        self.assertTrue(self.bars(([], [(["aaa"], ["jjd"])]), ("shut", kinds)))
        self.assertFalse(self.bars(([], [(["aaa"], []), (["z"], ["jjd"])]), ("shut", kinds)))


if __name__ == "__main__":
    unittest.main()
