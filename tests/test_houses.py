"""Points [5], [6] and [7]: houses, orders, and being stuck."""

import unittest

from keyrooms.errors import NoStep
from keyrooms.houses import is_house, is_plain, is_stuck, keys_behind, next_rooms

from helper import (BAD_KINDS, BAD_LOCKS, GOOD_KINDS, GOOD_LOCKS, NO_LISTS, every_order, not_houses, opened, refused,
                    some_houses, told)

# Room 2 wants two keys of one kind, and room 3 lies behind it.
HALL = (["b", "a"], [(["a"], ["a", "c"]), (["b"], ["a"]), (["a", "a"], ["z", "d"]), (["c", "d"], []), (["e"], ["e"])])

NO_ROOMS = [-1, -2, -5, -6, 5, 6, 60, 10 ** 29, -10 ** 29, True, False, None, "0", "", "a", b"0", [], [0], (), (0,),
            {}, {0}, object(), int, HALL]


class WhatIsAHouse(unittest.TestCase):

    def test_the_least(self):
        self.assertIs(told(self, is_house, ([], [])), True)
        self.assertIs(told(self, is_house, (["a"], [])), True)
        self.assertIs(told(self, is_house, ([], [(["a"], [])])), True)
        self.assertIs(told(self, is_house, HALL), True)

    def test_what_is_none(self):
        for thing in not_houses():
            self.assertIs(is_house(thing), False)

    def test_what_is_none_stays_as_it_was(self):
        for kind in BAD_KINDS[:25]:
            self.assertIs(told(self, is_house, (["b", "a"], [(["a"], [kind])])), False)
        for locks in BAD_LOCKS:
            self.assertIs(told(self, is_house, (["b", "a"], [(locks, ["b", "a"])])), False)

    def test_kinds(self):
        for kind in GOOD_KINDS:
            self.assertIs(is_house(([kind], [])), True)
            self.assertIs(is_house(([], [([kind], [])])), True)
            self.assertIs(is_house(([], [(["a"], [kind])])), True)
        for letter in "abcdefghijklmnopqrstuvwxyz":
            self.assertIs(is_house(([letter], [])), True)
            self.assertIs(is_house(([letter.upper()], [])), False)

    def test_no_other_sign_in_any_place(self):
        for sign in [chr(code) for code in list(range(32, 97)) + list(range(123, 127)) + [9, 10]]:
            for kind in [sign, sign + "a", "a" + sign, "a" + sign + "b"]:
                self.assertIs(is_house(([kind], [])), False, kind)
                self.assertIs(is_house(([], [([kind], [])])), False, kind)

    def test_locks(self):
        for locks in GOOD_LOCKS:
            self.assertIs(is_house(([], [(locks, [])])), True, locks)
        for locks in BAD_LOCKS:
            self.assertIs(is_house(([], [(locks, [])])), False, locks)

    def test_keys_in_any_order_and_alike(self):
        self.assertIs(is_house((["b", "a", "b", "a"], [(["a"], ["z", "a", "z", "a", "a", "b"])])), True)

    def test_of_any_size(self):
        self.assertIs(is_house((["a"] * 1000, [(["a"], ["b", "a"])] * 61)), True)
        self.assertIs(is_house(([], [(["a", "b"], ["c"] * 20) for number in range(3000)])), True)
        self.assertIs(is_house(([], [(["a"], [])] * 3000 + [(["b", "a"], [])])), False)
        self.assertIs(is_house((["a"] * 3000 + ["A"], [])), False)


class WhatIsPlain(unittest.TestCase):

    def test_one_lock_at_each_door(self):
        for house in [([], []), (["a"], []), ([], [(["a"], [])]), (["a"], [(["a"], ["b", "c"]), (["abcd"], [])])]:
            self.assertIs(told(self, is_plain, house), True)

    def test_several_locks_at_one(self):
        for locks in [["a", "b"], ["a", "a"], ["a", "b", "c"], ["a", "a", "a", "a"]]:
            for rooms in [[(locks, [])], [(["a"], []), (locks, [])], [(locks, []), (["a"], [])]]:
                self.assertIs(told(self, is_plain, ([], rooms)), False)


class KeysBehind(unittest.TestCase):

    def test_of_no_step(self):
        self.assertEqual(told(self, keys_behind, HALL, []), ["a", "b"])
        self.assertEqual(told(self, keys_behind, (["a", "b"], []), []), ["a", "b"])
        self.assertEqual(told(self, keys_behind, ([], []), []), [])
        self.assertEqual(told(self, keys_behind, (["b", "aa", "b", "a"], []), []), ["a", "aa", "b", "b"])

    def test_of_some(self):
        self.assertEqual(told(self, keys_behind, HALL, [0]), ["a", "b", "c"])
        self.assertEqual(told(self, keys_behind, HALL, [1]), ["a", "a"])
        self.assertEqual(told(self, keys_behind, HALL, [0, 1]), ["a", "a", "c"])
        self.assertEqual(told(self, keys_behind, HALL, [1, 0, 2]), ["c", "d", "z"])
        self.assertEqual(told(self, keys_behind, HALL, [1, 2]), ["d", "z"])

    def test_of_all(self):
        house = (HALL[0], HALL[1][:4])
        self.assertEqual(told(self, keys_behind, house, [1, 0, 2, 3]), ["z"])
        self.assertEqual(told(self, keys_behind, (["a"], [(["a"], [])]), [0]), [])

    def test_several_locks_of_one_kind(self):
        house = (["a", "b", "a", "b", "a"], [(["a", "a", "b"], ["a"]), (["a", "a", "b"], []), (["b", "b", "b"], [])])
        self.assertEqual(told(self, keys_behind, house, [0]), ["a", "a", "b"])
        self.assertEqual(told(self, keys_behind, house, [0, 1]), [])
        self.assertEqual(refused(self, NoStep, keys_behind, house, [1, 0]).at, 1)
        self.assertEqual(refused(self, NoStep, keys_behind, house, [2]).at, 0)

    def test_as_by_plain_reckoning(self):
        for house in some_houses(11, 120, 3):
            for order in every_order(house):
                self.assertEqual(told(self, keys_behind, house, order), opened(house, order))


class NextRooms(unittest.TestCase):

    def test_of_no_step(self):
        self.assertEqual(told(self, next_rooms, HALL, []), [0, 1])
        self.assertEqual(told(self, next_rooms, ([], []), []), [])
        self.assertEqual(told(self, next_rooms, (["b"], [(["a"], []), (["b"], []), (["b"], [])]), []), [1, 2])

    def test_of_some(self):
        self.assertEqual(told(self, next_rooms, HALL, [0]), [1])
        self.assertEqual(told(self, next_rooms, HALL, [1]), [0, 2])
        self.assertEqual(told(self, next_rooms, HALL, [1, 0]), [2])
        self.assertEqual(told(self, next_rooms, HALL, [1, 0, 2]), [3])
        self.assertEqual(told(self, next_rooms, HALL, [1, 2]), [])

    def test_none_that_was_opened(self):
        house = (["a", "a", "a"], [(["a"], ["a"]), (["a"], ["a"]), (["a"], ["a"])])
        self.assertEqual(told(self, next_rooms, house, []), [0, 1, 2])
        self.assertEqual(told(self, next_rooms, house, [1]), [0, 2])
        self.assertEqual(told(self, next_rooms, house, [2, 0]), [1])
        self.assertEqual(told(self, next_rooms, house, [2, 0, 1]), [])

    def test_a_key_serves_once_for_several_locks(self):
        self.assertEqual(told(self, next_rooms, (["a"], [(["a", "a"], []), (["a", "b"], []), (["a"], [])]), []), [2])
        self.assertEqual(told(self, next_rooms, (["a", "a"], [(["a", "a"], []), (["a", "a", "a"], [])]), []), [0])

    def test_no_key_from_behind_the_door(self):
        self.assertEqual(told(self, next_rooms, ([], [(["a"], ["a", "a"])]), []), [])

    def test_as_by_plain_reckoning(self):
        for house in some_houses(12, 120, 3):
            orders = every_order(house)
            for order in orders:
                due = [number for number in range(len(house[1])) if order + [number] in orders]
                self.assertEqual(told(self, next_rooms, house, order), due)


class Stuck(unittest.TestCase):

    def test_no_room_left(self):
        self.assertIs(told(self, is_stuck, ([], []), []), True)
        self.assertIs(told(self, is_stuck, (["a", "b"], []), []), True)
        self.assertIs(told(self, is_stuck, (["a", "a"], [(["a"], ["a"])]), [0]), True)

    def test_none_that_may_be_opened(self):
        self.assertIs(told(self, is_stuck, ([], [(["a"], ["a"])]), []), True)
        self.assertIs(told(self, is_stuck, (["a"], [(["a", "a"], [])]), []), True)
        self.assertIs(told(self, is_stuck, HALL, [1, 2]), True)

    def test_some_that_may_be(self):
        self.assertIs(told(self, is_stuck, HALL, []), False)
        self.assertIs(told(self, is_stuck, HALL, [0]), False)
        self.assertIs(told(self, is_stuck, (["a"], [(["a"], [])]), []), False)

    def test_as_by_plain_reckoning(self):
        for house in some_houses(13, 120, 3):
            orders = every_order(house)
            for order in orders:
                longer = [number for number in range(len(house[1])) if order + [number] in orders]
                self.assertIs(told(self, is_stuck, house, order), not longer)


class WrongOrders(unittest.TestCase):

    def at_of(self, house, order):
        """The place that each of the three refusals tells, which must be one."""
        places = []
        for deed in [keys_behind, next_rooms, is_stuck]:
            before = repr((house, order))
            places.append(refused(self, NoStep, deed, house, order).at)
            self.assertEqual(repr((house, order)), before)
        self.assertEqual(places, places[:1] * 3)
        self.assertNotIsInstance(places[0], bool)
        return places[0]

    def test_what_is_no_list(self):
        for thing in NO_LISTS:
            self.assertIsNone(self.at_of(HALL, thing))
            self.assertIsNone(self.at_of(([], []), thing))

    def test_what_is_no_room(self):
        for thing in NO_ROOMS:
            self.assertEqual(self.at_of(HALL, [thing]), 0)
            self.assertEqual(self.at_of(HALL, [1, thing]), 1)
            self.assertEqual(self.at_of(HALL, [1, 0, 2, thing, 3]), 3)
        self.assertEqual(self.at_of(([], []), [0]), 0)
        self.assertEqual(self.at_of((["a"], []), [-1]), 0)

    def test_truths_are_no_numbers(self):
        house = (["a", "a"], [(["a"], []), (["a"], [])])
        self.assertEqual(self.at_of(house, [False]), 0)
        self.assertEqual(self.at_of(house, [0, True]), 1)

    def test_numbers_from_the_end_are_no_rooms(self):
        house = (["a", "a"], [(["a"], []), (["a"], [])])
        self.assertEqual(self.at_of(house, [-1]), 0)
        self.assertEqual(self.at_of(house, [0, -1]), 1)
        self.assertEqual(self.at_of(house, [0, 2]), 1)

    def test_a_room_that_was_opened(self):
        house = (["a"] * 9, [(["a"], ["a"]), (["a"], []), (["a"], [])])
        self.assertEqual(self.at_of(house, [0, 0]), 1)
        self.assertEqual(self.at_of(house, [2, 0, 1, 2]), 3)
        self.assertEqual(self.at_of(house, [0, 1, 0, 1]), 2)

    def test_too_few_keys(self):
        self.assertEqual(self.at_of(HALL, [2]), 0)
        self.assertEqual(self.at_of(HALL, [0, 2]), 1)
        self.assertEqual(self.at_of(HALL, [1, 2, 0]), 2)
        self.assertEqual(self.at_of(HALL, [1, 0, 2, 4]), 3)
        self.assertEqual(self.at_of(([], [(["a"], ["a"])]), [0]), 0)

    def test_the_first_that_may_not_be(self):
        self.assertEqual(self.at_of(HALL, [1, 4, None, -1, 1]), 1)
        self.assertEqual(self.at_of(HALL, [1, None, 4]), 1)
        self.assertEqual(self.at_of(HALL, [1, 1, 2]), 1)
        self.assertEqual(self.at_of(HALL, [0] * 400), 1)

    def test_as_by_plain_reckoning(self):
        for house in some_houses(14, 60, 3, most_rooms=4):
            many = len(house[1])
            orders = every_order(house)
            for order in orders:
                for number in range(many):
                    if order + [number] not in orders:
                        self.assertEqual(self.at_of(house, order + [number]), len(order))
                        self.assertEqual(self.at_of(house, order + [number, 0, "a"]), len(order))


if __name__ == "__main__":
    unittest.main()
