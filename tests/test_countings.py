"""Points [8] and [9]: counts, and what comes."""

import itertools
import unittest

from keyrooms.countings import kinds_counted, kinds_that_come, rooms_that_come

from helper import every_order, kind_called, row_house, some_houses, told


def least_kinds(house):
    """The least kinds that come, by walking all rooms until nothing more does."""
    come = set(house[0])
    for each in range(len(house[1])):
        for locks, keys in house[1]:
            if set(locks) <= come:
                come |= set(keys)
    return sorted(come)


class Counts(unittest.TestCase):

    def test_none(self):
        self.assertEqual(told(self, kinds_counted, ([], [])), {})

    def test_kinds_of_keys_alone(self):
        self.assertEqual(told(self, kinds_counted, (["b", "a", "b"], [])), {"a": (1, 0), "b": (2, 0)})
        self.assertEqual(told(self, kinds_counted, ([], [(["a"], ["c", "c"])])), {"a": (0, 1), "c": (2, 0)})

    def test_kinds_of_locks_alone(self):
        self.assertEqual(told(self, kinds_counted, ([], [(["a", "b"], []), (["b"], [])])), {"a": (0, 1), "b": (0, 2)})

    def test_keys_at_the_beginning_and_in_rooms(self):
        house = (["a", "b", "a"], [(["a"], ["a", "c"]), (["b"], ["c", "a"]), (["c"], [])])
        self.assertEqual(told(self, kinds_counted, house), {"a": (4, 1), "b": (1, 1), "c": (2, 1)})

    def test_several_locks_of_one_kind(self):
        house = (["a"], [(["a", "a", "a", "ab"], ["ab"]), (["a", "ab"], ["abcd"])])
        self.assertEqual(told(self, kinds_counted, house), {"a": (1, 4), "ab": (1, 2), "abcd": (1, 0)})

    def test_they_are_tuples_in_a_dict(self):
        counts = told(self, kinds_counted, (["a"], [(["b"], [])]))
        self.assertIs(type(counts), dict)
        for pair in counts.values():
            self.assertIs(type(pair), tuple)
            self.assertEqual([type(number) for number in pair], [int, int])

    def test_more_locks_than_keys_leave_a_room_shut(self):
        short = 0
        for house in some_houses(21, 200, 3, most_rooms=4):
            if any(locks > keys for keys, locks in told(self, kinds_counted, house).values()):
                short += 1
                self.assertFalse([order for order in every_order(house) if len(order) == len(house[1])])
        self.assertGreater(short, 20)


class Coming(unittest.TestCase):

    def coming(self, house):
        """Both answers of a house."""
        return told(self, kinds_that_come, house), told(self, rooms_that_come, house)

    def test_none(self):
        self.assertEqual(self.coming(([], [])), ([], []))

    def test_keys_at_the_beginning(self):
        self.assertEqual(self.coming((["b", "a", "b", "aa"], [])), (["a", "aa", "b"], []))
        self.assertEqual(self.coming((["b"], [(["a"], []), (["b"], [])])), (["b"], [1]))

    def test_kinds_without_a_lock_come_too(self):
        self.assertEqual(self.coming((["a"], [(["a"], ["z", "y"])])), (["a", "y", "z"], [0]))

    def test_counts_are_not_asked(self):
        house = (["a"], [(["a", "a", "a"], ["b"]), (["a"], []), (["a"], []), (["b", "b"], [])])
        self.assertEqual(self.coming(house), (["a", "b"], [0, 1, 2, 3]))

    def test_all_locks_are_asked(self):
        house = (["a", "b"], [(["a", "c"], ["d"]), (["a", "b"], ["e"]), (["b", "c"], ["f"]), (["d"], ["g"])])
        self.assertEqual(self.coming(house), (["a", "b", "e"], [1]))
        late = (["a"], [(["a", "b", "c"], ["d"]), (["a"], ["b"]), (["a", "b"], ["c"]), (["d"], [])])
        self.assertEqual(self.coming(late), (["a", "b", "c", "d"], [0, 1, 2, 3]))

    def test_rows_in_any_order(self):
        row = [(["a"], ["b"]), (["b"], ["c"]), (["c"], ["d"]), (["d"], ["e"])]
        for rooms in itertools.permutations(row):
            self.assertEqual(self.coming((["a"], list(rooms))), (["a", "b", "c", "d", "e"], [0, 1, 2, 3]))

    def test_broken_rows(self):
        row = [(["a"], ["b"]), (["b"], ["x"]), (["c"], ["d"]), (["d"], ["e"])]
        for rooms in itertools.permutations(row):
            due = sorted(number for number in range(4) if rooms[number] in row[:2])
            self.assertEqual(self.coming((["a"], list(rooms))), (["a", "b", "x"], due))

    def test_rings_that_lead_to_one_another_alone(self):
        self.assertEqual(self.coming(([], [(["a"], ["a"])])), ([], []))
        self.assertEqual(self.coming(([], [(["a"], ["b"]), (["b"], ["a"])])), ([], []))
        house = (["x"], [(["a"], ["b", "x"]), (["x"], ["y"]), (["b"], ["c"]), (["c"], ["a"])])
        self.assertEqual(self.coming(house), (["x", "y"], [1]))
        mixed = (["x"], [(["a", "x"], ["b"]), (["b", "x"], ["a"]), (["x", "x"], [])])
        self.assertEqual(self.coming(mixed), (["x"], [2]))

    def test_a_ring_that_is_entered(self):
        house = (["x"], [(["a"], ["b"]), (["x"], ["c"]), (["b"], ["c"]), (["c"], ["a"])])
        self.assertEqual(self.coming(house), (["a", "b", "c", "x"], [0, 1, 2, 3]))

    def test_a_long_row(self):
        kinds = [kind_called(number) for number in range(61)]
        self.assertEqual(self.coming(row_house(60)), (kinds, list(range(60))))
        keys, rooms = row_house(60)
        self.assertEqual(self.coming((keys, rooms[:30] + rooms[31:])), (kinds[:30], list(range(30, 59))))

    def test_the_least_such_kinds(self):
        for house in some_houses(22, 400, 3):
            kinds, rooms = self.coming(house)
            self.assertEqual(kinds, least_kinds(house))
            due = [number for number, room in enumerate(house[1]) if set(room[0]) <= set(kinds)]
            self.assertEqual(rooms, due)

    def test_a_room_that_could_not_come_is_opened_by_no_order(self):
        for house in some_houses(23, 200, 2, most_rooms=4):
            could = told(self, rooms_that_come, house)
            for order in every_order(house):
                self.assertTrue(set(order) <= set(could))


if __name__ == "__main__":
    unittest.main()
