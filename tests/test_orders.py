"""Points [4], [15] and [16]: how many orders there are, the k-th of them, the number of one, and stuck orders."""

import itertools
import math
import unittest

from keyrooms.errors import NoNumber, NoOrder, TooMany
from keyrooms.orders import how_many_orders, how_many_stuck, nth_order, number_of_order

from helper import (NO_LISTS, every_order, free_house, refused, row_house, some_houses, soon, stuck_orders, told,
                    too_large_houses, whole_orders)

# Its orders of all rooms are [0, 1, 2, 3], [1, 0, 2, 3] and [1, 2, 0, 3].
FEW = (["a", "a", "b"], [(["a"], ["d"]), (["a", "b"], ["a", "c"]), (["a", "c"], ["a"]), (["a", "d"], [])])

WRONG_NUMBERS = [-1, -2, -10 ** 29, 10 ** 29, 10 ** 30 - 1]

OTHER_THINGS = [True, False, None, "0", "", [], [0], (), {}]


def permutation(many, k):
    """The k-th order of so many rooms that may be opened in any order."""
    left = list(range(many))
    order = []
    while left:
        place, k = divmod(k, math.factorial(len(left) - 1))
        order.append(left.pop(place))
    return order


class Orders(unittest.TestCase):

    def number(self, house):
        """How many orders there are, once it is seen to be told as a whole number."""
        many = told(self, how_many_orders, house)
        self.assertIs(type(many), int)
        return many

    def check_all(self, house, orders):
        """See that just these orders are counted, told and numbered."""
        self.assertEqual(self.number(house), len(orders))
        for k, order in enumerate(orders):
            answer = told(self, nth_order, house, k)
            self.assertIs(type(answer), list)
            self.assertTrue(all(type(number) is int for number in answer))
            self.assertEqual(answer, order)
            place = told(self, number_of_order, house, order)
            self.assertIs(type(place), int)
            self.assertEqual(place, k)
        for k in [len(orders), len(orders) + 1] + WRONG_NUMBERS:
            refused(self, NoNumber, nth_order, house, k)

    def test_no_room(self):
        self.check_all(([], []), [[]])
        self.check_all((["a", "b"], []), [[]])

    def test_some(self):
        self.check_all((["a"], [(["a"], [])]), [[0]])
        self.check_all((["a"], [(["c"], []), (["b"], ["c"]), (["a"], ["b"])]), [[2, 1, 0]])
        self.check_all((["a"], [(["a"], []), (["a"], ["b"]), (["b"], ["a"])]), [[1, 2, 0]])
        self.check_all(FEW, [[0, 1, 2, 3], [1, 0, 2, 3], [1, 2, 0, 3]])

    def test_none(self):
        for house in [([], [(["a"], [])]), (["a"], [(["a", "a"], [])]), (["a"], [(["a"], []), (["b"], ["b"])])]:
            self.check_all(house, [])

    def test_against_all_orders(self):
        sizes = []
        for house in some_houses(71, 200, 1) + some_houses(72, 400, 2) + some_houses(73, 200, 4):
            orders = whole_orders(house)
            self.check_all(house, orders)
            sizes.append(len(orders))
        self.assertGreater(len([size for size in sizes if size > 1]), 60)
        self.assertGreater(len([size for size in sizes if size == 0]), 100)

    def test_more_rooms_against_all_orders(self):
        counted = 0
        for house in some_houses(74, 60, 2, most_rooms=7):
            richer = (house[0] + ["a", "b", "c", "bb"], house[1])
            orders = whole_orders(richer)
            self.assertEqual(self.number(richer), len(orders))
            counted += len(orders) > 1
            for k in range(0, len(orders), 1 + len(orders) // 7):
                self.assertEqual(told(self, nth_order, richer, k), orders[k])
                self.assertEqual(told(self, number_of_order, richer, orders[k]), k)
        self.assertGreater(counted, 15)

    def test_twelve_rooms_in_any_order(self):
        many = math.factorial(12)
        with soon():
            for house in [free_house(12), free_house(12, 4), (["b"] * 100 + free_house(12)[0], free_house(12)[1])]:
                self.assertEqual(self.number(house), many)
                for k in [0, 1, 2, 719, 720, 12345678, 400000000, many // 2, many - 2, many - 1]:
                    order = permutation(12, k)
                    self.assertEqual(told(self, nth_order, house, k), order)
                    self.assertEqual(told(self, number_of_order, house, order), k)
                for k in [many, many + 1] + WRONG_NUMBERS:
                    refused(self, NoNumber, nth_order, house, k)

    def test_twelve_rooms_in_one_order(self):
        self.check_all(row_house(12), [list(range(11, -1, -1))])

    def test_twelve_rooms_in_pairs(self):
        # Each second room lies behind the one ahead of it, so half of the orders go with each pair.
        rooms = []
        for kind in "abcdef":
            rooms += [([kind], [kind * 2]), ([kind * 2], [])]
        house = (list("abcdef"), rooms)
        with soon():
            many = math.factorial(12) // 64
            self.assertEqual(self.number(house), many)
            self.assertEqual(told(self, nth_order, house, 0), list(range(12)))
            last = [10, 11, 8, 9, 6, 7, 4, 5, 2, 3, 0, 1]
            self.assertEqual(told(self, nth_order, house, many - 1), last)
            for k in [0, 1, 1000000, many // 3, many - 1]:
                self.assertEqual(told(self, number_of_order, house, nth_order(house, k)), k)


class WrongOnes(unittest.TestCase):

    def test_no_number_of_other_things(self):
        for house in [FEW, ([], []), free_house(3)]:
            for thing in OTHER_THINGS:
                refused(self, NoNumber, nth_order, house, thing)

    def test_no_order(self):
        wrong = [[], [0], [0, 1, 2], [0, 1, 2, 3, 0], [0, 1, 2, 3, 3], [0, 1, 2, 3, 4], [0, 1, 2, 3, -1], [0, 1, 3, 2],
                 [0, 0, 1, 2], [0, 1, 2, 2], [3, 2, 1, 0], [0, 2, 1, 3], [1, 2, 3, 0], [0, 1, 2, -1], [0, 1, 2, 4],
                 [-4, -3, -2, -1], [1, 2, 3, 4], [0, 1, 2, 10 ** 29], [-10 ** 29], [0, 1, 2] * 133, [0] * 400]
        for order in wrong:
            before = repr(order)
            refused(self, NoOrder, number_of_order, FEW, order)
            self.assertEqual(repr(order), before)
        for order in [[0], [-1], [0, 1]]:
            refused(self, NoOrder, number_of_order, ([], []), order)

    def test_no_order_where_not_all_can_be_opened(self):
        house = (["a"], [(["a"], []), (["b"], [])])
        for order in [[], [0], [1], [0, 1], [1, 0]]:
            refused(self, NoOrder, number_of_order, house, order)

    def test_truths_and_other_things_are_no_rooms(self):
        for order in [[False, True], [0, True], [False, 1], [0, None], [0, "1"], [0, [1]], [None, 1], [0, {}]]:
            refused(self, NoOrder, number_of_order, free_house(2), order)
        for thing in NO_LISTS:
            refused(self, NoOrder, number_of_order, free_house(2), thing)
            refused(self, NoOrder, number_of_order, ([], []), thing)

    def test_just_the_orders_have_a_number(self):
        for house in some_houses(75, 80, 2, most_rooms=4):
            orders = whole_orders(house)
            many = len(house[1])
            for length in range(many + 2):
                for order in itertools.product(range(-1, many + 1), repeat=min(length, 4)):
                    if list(order) not in orders:
                        refused(self, NoOrder, number_of_order, house, list(order))

    def test_too_many(self):
        for house in too_large_houses():
            refused(self, TooMany, how_many_orders, house)
            refused(self, TooMany, how_many_stuck, house)
            for k in [0, 1, -1, 10 ** 29, None, True]:
                refused(self, TooMany, nth_order, house, k)
            for order in [[], [0], list(range(13)), list(range(60)), [-1], [99], None, ["a"]]:
                refused(self, TooMany, number_of_order, house, order)


class Stuck(unittest.TestCase):

    def number(self, house):
        """How many stuck orders there are, once it is seen to be told as a whole number."""
        many = told(self, how_many_stuck, house)
        self.assertIs(type(many), int)
        return many

    def test_no_room(self):
        self.assertEqual(self.number(([], [])), 1)
        self.assertEqual(self.number((["a"], [])), 1)

    def test_none_may_be_opened(self):
        self.assertEqual(self.number(([], [(["a"], ["a"]), (["b"], [])])), 1)
        self.assertEqual(self.number((["a"], [(["a", "a"], [])])), 1)

    def test_some(self):
        self.assertEqual(self.number((["a"], [(["a"], []), (["a"], ["b"]), (["b"], ["a"])])), 2)
        self.assertEqual(self.number((["a"], [(["a"], []), (["a"], []), (["a"], [])])), 3)
        self.assertEqual(self.number((["a", "a"], [(["a"], []), (["a"], []), (["a"], [])])), 6)
        self.assertEqual(self.number(free_house(3)), 6)

    def test_against_all_orders(self):
        differ = 0
        for house in some_houses(76, 200, 1) + some_houses(77, 300, 2) + some_houses(78, 100, 4):
            orders = stuck_orders(house)
            self.assertEqual(self.number(house), len(orders))
            whole = len(whole_orders(house))
            differ += len(orders) > whole > 0
            self.assertLessEqual(len(orders), len(every_order(house)))
        self.assertGreater(differ, 20)

    def test_twelve_rooms(self):
        with soon():
            self.assertEqual(self.number(free_house(12)), math.factorial(12))
            self.assertEqual(self.number(free_house(12, 3)), math.factorial(12))
            keys, rooms = free_house(12)
            self.assertEqual(self.number((keys[:5], rooms)), 12 * 11 * 10 * 9 * 8)
            self.assertEqual(self.number((keys[:11], rooms)), math.factorial(12))
            self.assertEqual(self.number(row_house(12)), 1)


if __name__ == "__main__":
    unittest.main()
