"""Point [3]: the refusals."""

import unittest

from keyrooms import errors
from keyrooms.bought import buying_paper, buying_shows, keys_to_buy
from keyrooms.countings import kinds_counted, kinds_that_come, rooms_that_come
from keyrooms.errors import (KeyroomError, NoHouse, NoKind, NoNumber, NoOrder, NoPlain, NoRow, NoStep, NoText,
                             TooMany)
from keyrooms.firstorder import first_order, goes_on
from keyrooms.houses import is_plain, is_stuck, keys_behind, next_rooms
from keyrooms.kinds import may_be_one, named_kinds, without_needless
from keyrooms.most import most_rooms, most_worth, stuck_sets, worth_paper, worth_shows
from keyrooms.opening import bars_house, told_opening
from keyrooms.orders import how_many_orders, how_many_stuck, nth_order, number_of_order
from keyrooms.texts import show_house

from helper import not_houses, refused

WITH_TEXT = [NoHouse, NoPlain, NoOrder, NoNumber, NoKind, TooMany, NoText, NoRow]


class Refusals(unittest.TestCase):

    def test_the_base_stands_under_value_error(self):
        self.assertEqual(KeyroomError.__bases__, (ValueError,))

    def test_each_stands_straight_under_the_base(self):
        for error in WITH_TEXT + [NoStep]:
            with self.subTest(error.__name__):
                self.assertEqual(error.__bases__, (KeyroomError,))
                self.assertTrue(issubclass(error, ValueError))
                self.assertFalse(issubclass(error, LookupError))

    def test_none_stands_under_another(self):
        for error in WITH_TEXT + [NoStep]:
            for other in WITH_TEXT + [NoStep]:
                self.assertEqual(issubclass(error, other), error == other)

    def test_each_bears_its_own_name(self):
        for error in WITH_TEXT + [NoStep, KeyroomError]:
            self.assertIs(getattr(errors, error.__name__), error)

    def test_str_tells_the_text(self):
        for error in WITH_TEXT + [KeyroomError]:
            for text in ["", "a", "no such thing: 'a', \"b\"", "two\nlines"]:
                self.assertEqual(str(error(text)), text)

    def test_no_step_keeps_its_place(self):
        for at in [0, 1, 59, -1, 10 ** 29]:
            self.assertEqual(NoStep(at).at, at)
        self.assertIsNone(NoStep(None).at)
        self.assertIsInstance(str(NoStep(3)), str)

    def test_each_is_taken_as_any_refusal(self):
        for error in WITH_TEXT:
            with self.assertRaises(KeyroomError):
                raise error("a")
        with self.assertRaises(KeyroomError) as caught:
            raise NoStep(4)
        self.assertEqual(caught.exception.at, 4)


class NoHouseAhead(unittest.TestCase):

    def test_of_a_house_alone(self):
        for deed in [is_plain, kinds_counted, kinds_that_come, rooms_that_come, told_opening, first_order, keys_to_buy,
                     buying_paper, how_many_orders, how_many_stuck, most_rooms, stuck_sets, without_needless,
                     show_house]:
            for thing in not_houses():
                refused(self, NoHouse, deed, thing)

    def test_ahead_of_no_step(self):
        for deed in [keys_behind, next_rooms, is_stuck, goes_on]:
            for thing in not_houses():
                for order in [[], [0], [-1], None, (), "a"]:
                    refused(self, NoHouse, deed, thing, order)

    def test_ahead_of_no_plain_and_of_the_paper(self):
        for thing in not_houses() + [([], [(["a", "b"], []), ([], [])]), ([0], [(["a", "b"], [])])]:
            refused(self, NoHouse, told_opening, thing)
            for paper in [("few", "a", 0, 1), ("shut", ["a"]), ("shut", []), ("few", "A", -1, 1)]:
                refused(self, NoHouse, bars_house, thing, paper)
            refused(self, NoHouse, first_order, thing)
            refused(self, NoHouse, keys_to_buy, thing)
            refused(self, NoHouse, buying_paper, thing)
            for paper in [({}, []), ({"a": 1}, [["a"]]), ({"A": -1}, [[]])]:
                refused(self, NoHouse, buying_shows, thing, paper, 0)

    def test_ahead_of_too_many(self):
        rooms = [(["a", "b"], []) for number in range(13)]
        for thing in [([], rooms + [(["b", "a"], [])]), (["A"], rooms), ((), rooms), [[], rooms], ([], tuple(rooms))]:
            for deed in [how_many_orders, how_many_stuck, most_rooms, stuck_sets]:
                refused(self, NoHouse, deed, thing)
            for order in [[], [0], None]:
                refused(self, NoHouse, goes_on, thing, order)
                refused(self, NoHouse, number_of_order, thing, order)
            for first, other in [("a", "b"), ("a", "a"), ("q", None)]:
                refused(self, NoHouse, may_be_one, thing, first, other)
            refused(self, NoHouse, named_kinds, thing, ([], rooms))
            refused(self, NoHouse, named_kinds, ([], rooms), thing)

    def test_ahead_of_no_number_and_no_order(self):
        for thing in not_houses():
            for k in [0, -1, None]:
                refused(self, NoHouse, nth_order, thing, k)
            for order in [[], [0], [-1], None]:
                refused(self, NoHouse, number_of_order, thing, order)
            for worths in [[], [0], [-1], None]:
                refused(self, NoHouse, most_worth, thing, worths)
                refused(self, NoHouse, worth_paper, thing, worths)
                refused(self, NoHouse, worth_shows, thing, worths, [[]], 0)


if __name__ == "__main__":
    unittest.main()
