"""Point [3]: the refusals."""

import unittest

from keyrooms import errors
from keyrooms.countings import kinds_counted, kinds_that_come, rooms_that_come
from keyrooms.errors import (KeyroomError, NoHouse, NoKind, NoNumber, NoOrder, NoPlain, NoRow, NoStep, NoText,
                             TooMany)
from keyrooms.houses import is_plain, is_stuck, keys_behind, next_rooms
from keyrooms.opening import bars_house, told_opening

from helper import not_houses, refused

WITH_TEXT = [NoHouse, NoPlain, NoOrder, NoNumber, NoKind, TooMany, NoText, NoRow]


class Refusals(unittest.TestCase):

    def test_the_base_stands_under_value_error(self):
        self.assertEqual(KeyroomError.__bases__, (ValueError,))

    def test_each_stands_straight_under_the_base(self):
        for error in WITH_TEXT + [NoStep]:
            with self.subTest(error.__name__):
                self.assertEqual(error.__bases__, (KeyroomError,))
                self.assertTrue(issubclass(error, ValueError))
                self.assertFalse(issubclass(error, LookupError))

    def test_none_stands_under_another(self):
        for error in WITH_TEXT + [NoStep]:
            for other in WITH_TEXT + [NoStep]:
                self.assertEqual(issubclass(error, other), error == other)

    def test_each_bears_its_own_name(self):
        for error in WITH_TEXT + [NoStep, KeyroomError]:
            self.assertIs(getattr(errors, error.__name__), error)

    def test_str_tells_the_text(self):
        for error in WITH_TEXT + [KeyroomError]:
            for text in ["", "a", "no such thing: 'a', \"b\"", "two\nlines"]:
                self.assertEqual(str(error(text)), text)

    def test_no_step_keeps_its_place(self):
        for at in [0, 1, 59, -1, 10 ** 29]:
            self.assertEqual(NoStep(at).at, at)
        self.assertIsNone(NoStep(None).at)
        self.assertIsInstance(str(NoStep(3)), str)

    def test_each_is_taken_as_any_refusal(self):
        for error in WITH_TEXT:
            with self.assertRaises(KeyroomError):
                raise error("a")
        with self.assertRaises(KeyroomError) as caught:
            raise NoStep(4)
        self.assertEqual(caught.exception.at, 4)


class NoHouseAhead(unittest.TestCase):

    def test_of_a_house_alone(self):
        for deed in [is_plain, kinds_counted, kinds_that_come, rooms_that_come, told_opening]:
            for thing in not_houses():
                refused(self, NoHouse, deed, thing)

    def test_ahead_of_no_step(self):
        for deed in [keys_behind, next_rooms, is_stuck]:
            for thing in not_houses():
                for order in [[], [0], [-1], None, (), "a"]:
                    refused(self, NoHouse, deed, thing, order)

    def test_ahead_of_no_plain_and_of_the_paper(self):
        for thing in not_houses() + [([], [(["a", "b"], []), ([], [])]), ([0], [(["a", "b"], [])])]:
            refused(self, NoHouse, told_opening, thing)
            for paper in [("few", "a", 0, 1), ("shut", ["a"]), ("shut", []), ("few", "A", -1, 1)]:
                refused(self, NoHouse, bars_house, thing, paper)


if __name__ == "__main__":
    unittest.main()
