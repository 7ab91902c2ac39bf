"""Point [12]: the first order, and whether an order can be gone on with."""

import itertools
import unittest

from keyrooms.errors import NoPlain, NoStep, TooMany
from keyrooms.firstorder import first_order, goes_on

from helper import (NO_LISTS, NOT_PLAIN, can_be_opened, every_order, free_house, large_houses, opened, refused,
                    row_house, some_houses, soon, told, whole_orders)

# Who opens room 0 or room 2 first loses the one key that leads on.
TRAPS = (["a"], [(["a"], []), (["a"], ["b"]), (["a"], []), (["b"], ["c"]), (["c"], ["a", "a"])])


def careful_order(house):
    """The first order of all rooms: at each step the lowest room behind which the others can be opened."""
    if not can_be_opened(house):
        return None
    order = []
    for each in house[1]:
        for number, room in enumerate(house[1]):
            if number not in order and opened(house, order + [number]) is not None:
                hand = opened(house, order + [number])
                left = [other for at, other in enumerate(house[1]) if at not in order + [number]]
                if can_be_opened((hand, left)):
                    order.append(number)
                    break
    return order


class FirstOrder(unittest.TestCase):

    def test_no_room(self):
        self.assertEqual(told(self, first_order, ([], [])), [])
        self.assertEqual(told(self, first_order, (["a", "b"], [])), [])

    def test_none_where_keys_are_few(self):
        self.assertIsNone(told(self, first_order, ([], [(["a"], [])])))
        self.assertIsNone(told(self, first_order, (["a", "b"], [(["a"], []), (["a"], ["b"])])))

    def test_none_where_rooms_are_shut(self):
        self.assertIsNone(told(self, first_order, ([], [(["a"], ["a"])])))
        self.assertIsNone(told(self, first_order, (["x"], [(["a"], ["b"]), (["x"], []), (["b"], ["a"])])))

    def test_some(self):
        self.assertEqual(told(self, first_order, (["a"], [(["a"], [])])), [0])
        self.assertEqual(told(self, first_order, (["a"], [(["c"], []), (["b"], ["c"]), (["a"], ["b"])])), [2, 1, 0])
        self.assertEqual(told(self, first_order, TRAPS), [1, 3, 4, 0, 2])
        self.assertEqual(told(self, first_order, (["a", "b"], [(["b"], []), (["a"], ["c"]), (["c"], [])])), [0, 1, 2])

    def test_the_lowest_is_taken_as_soon_as_may_be(self):
        # Room 0 may be opened first, though others lead on: a second key of its kind is in hand.
        self.assertEqual(told(self, first_order, (["a", "a"], TRAPS[1])), [0, 1, 3, 4, 2])
        house = (["a"], [(["b"], []), (["a"], ["a", "b"]), (["a"], [])])
        self.assertEqual(told(self, first_order, house), [1, 0, 2])

    def test_against_all_orders(self):
        ends = {True: 0, False: 0}
        for house in some_houses(51, 900, 1) + [(["a"], list(rooms)) for rooms in itertools.permutations(TRAPS[1])]:
            orders = whole_orders(house)
            self.assertEqual(told(self, first_order, house), orders[0] if orders else None)
            ends[bool(orders)] += 1
        self.assertGreater(min(ends.values()), 150)

    def test_against_sets_of_rooms(self):
        held_back = 0
        for house in some_houses(52, 400, 1, most_rooms=9):
            due = careful_order(house)
            self.assertEqual(told(self, first_order, house), due)
            held_back += due is not None and due != sorted(due)
        self.assertGreater(held_back, 40)

    def test_large_houses(self):
        ahead, behind, rounds, free = large_houses()
        with soon():
            self.assertEqual(told(self, first_order, ahead), list(range(29, 60)) + list(range(29)))
            self.assertEqual(told(self, first_order, behind), list(range(30, -1, -1)) + list(range(31, 60)))
            self.assertEqual(told(self, first_order, rounds), list(range(60)))
            self.assertEqual(told(self, first_order, free), list(range(60)))
            self.assertEqual(told(self, first_order, row_house(60)), list(range(59, -1, -1)))
            self.assertIsNone(told(self, first_order, ([], row_house(60)[1])))
            self.assertIsNone(told(self, first_order, (free[0][1:60], free[1])))

    def test_no_plain(self):
        for house in NOT_PLAIN + [free_house(13, 2), free_house(60, 4)]:
            refused(self, NoPlain, first_order, house)


class GoesOn(unittest.TestCase):

    def goes(self, house, order):
        """Whether the order can be gone on with, once it is seen to be told as a truth."""
        answer = told(self, goes_on, house, order)
        self.assertIs(type(answer), bool)
        return answer

    def test_no_room(self):
        self.assertTrue(self.goes(([], []), []))
        self.assertTrue(self.goes((["a"], []), []))

    def test_some(self):
        due = {(): True, (0,): False, (1,): True, (2,): False, (1, 3): True, (1, 3, 4, 2): True}
        for order, truth in due.items():
            self.assertEqual(self.goes(TRAPS, list(order)), truth)

    def test_of_all_rooms(self):
        self.assertTrue(self.goes(TRAPS, [1, 3, 4, 2, 0]))
        self.assertTrue(self.goes((["a", "b"], [(["a", "b"], [])]), [0]))

    def test_where_keys_are_few_or_rooms_shut(self):
        self.assertFalse(self.goes(([], [(["a"], [])]), []))
        self.assertFalse(self.goes((["a"], [(["a"], []), (["b"], ["b"])]), [0]))
        self.assertFalse(self.goes((["a"], [(["a"], []), (["a"], [])]), [1]))

    def test_several_locks(self):
        house = (["a", "a", "b"], [(["a"], []), (["a", "b"], ["a", "c"]), (["a", "c"], ["a"])])
        due = {(): True, (0,): True, (0, 1): True, (1,): True, (1, 0): True, (1, 2): True}
        for order, truth in due.items():
            self.assertEqual(self.goes(house, list(order)), truth)
        house = (["a", "a"], [(["a"], ["b"]), (["a", "a"], ["a"]), (["b"], [])])
        self.assertTrue(self.goes(house, []))
        self.assertFalse(self.goes(house, [0]))
        self.assertFalse(self.goes(house, [0, 2]))
        self.assertTrue(self.goes(house, [1]))

    def test_counts_and_what_comes_are_not_all_with_several_locks(self):
        # Of each kind there are as many keys as locks, and each room could come.
        house = (["a", "b"], [(["a", "b"], ["c"]), (["a", "c"], ["b"]), (["b", "c"], ["a", "c"])])
        self.assertEqual(whole_orders(house), [])
        self.assertFalse(self.goes(house, []))
        self.assertFalse(self.goes(house, [0]))

    def test_against_all_orders(self):
        ends = {True: 0, False: 0}
        for house in some_houses(53, 150, 1) + some_houses(54, 300, 2, most_rooms=4) + some_houses(55, 150, 3):
            starts = {tuple(order[:many]) for order in whole_orders(house) for many in range(len(order) + 1)}
            for order in every_order(house):
                due = tuple(order) in starts
                self.assertEqual(self.goes(house, order), due)
                ends[due] += 1
        self.assertGreater(min(ends.values()), 300)

    def test_large_plain_houses(self):
        ahead, behind, rounds, free = large_houses()
        with soon():
            for house in [ahead, behind, rounds, free, row_house(60)]:
                order = first_order(house)
                for many in range(0, 61, 6):
                    self.assertTrue(self.goes(house, order[:many]))
            self.assertFalse(self.goes(ahead, [0]))
            self.assertFalse(self.goes(behind, [59]))
            self.assertTrue(self.goes(ahead, list(range(29, 60)) + list(range(28, 5, -1))))
            self.assertFalse(self.goes((free[0][1:60], free[1]), list(range(50))))
            self.assertTrue(self.goes(free_house(13), [12, 0]))

    def test_twelve_rooms_of_several_locks(self):
        with soon():
            self.assertTrue(self.goes(free_house(12, 4), []))
            self.assertTrue(self.goes(free_house(12, 4), [7, 3]))
            keys, rooms = free_house(12, 2)
            self.assertFalse(self.goes((keys[1:], rooms), [7, 3]))
            self.assertFalse(self.goes((keys, rooms[1:] + [(["a", "b"], ["b"])]), [0]))

    def test_too_many(self):
        for house in [free_house(13, 2), free_house(60, 4), (["a"], [(["a"], ["a"])] * 12 + [(["a", "b"], [])])]:
            for order in [[], [0], [0, 0], [-1], [13], ["a"], None, (), "a"]:
                refused(self, TooMany, goes_on, house, order)

    def test_no_too_many_of_plain_houses(self):
        for house in [free_house(13), row_house(13), free_house(60)]:
            self.assertTrue(self.goes(house, []))
            self.assertEqual(refused(self, NoStep, goes_on, house, [len(house[1])]).at, 0)

    def test_no_step(self):
        several = (["a", "b", "a"], [(["a", "b"], ["c"]), (["a"], []), (["c"], []), (["a", "a", "a"], [])])
        wrong = [([2], 0), ([3], 0), ([0, 0], 1), ([1, 1], 1), ([0, 1, 3], 2), ([0, 2, 0], 2), ([4], 0), ([-1], 0),
                 ([0, -1], 1), ([0, 4], 1), ([True], 0), ([0, True], 1), ([None], 0), ([0, "1"], 1), ([0, [1]], 1),
                 ([0, 10 ** 29], 1), ([0] * 400, 1)]
        for order, at in wrong:
            before = repr(order)
            self.assertEqual(refused(self, NoStep, goes_on, several, order).at, at)
            self.assertEqual(repr(order), before)
        for order, at in [([3], 0), ([1, 4], 1), ([1, 1], 1), ([1, 3, 0], 2), ([1, 3, 4, 5], 3), ([False], 0), ([-4], 0)]:
            self.assertEqual(refused(self, NoStep, goes_on, TRAPS, order).at, at)
        for thing in NO_LISTS:
            for house in [several, TRAPS, ([], []), free_house(60)]:
                self.assertIsNone(refused(self, NoStep, goes_on, house, thing).at)


if __name__ == "__main__":
    unittest.main()
