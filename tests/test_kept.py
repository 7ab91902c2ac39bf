"""Point [2]: what is handed in and what is told stand apart, and the sizes are answered."""

import copy
import unittest

from keyrooms.countings import kinds_counted, kinds_that_come, rooms_that_come
from keyrooms.errors import KeyroomError
from keyrooms.houses import is_house, is_plain, is_stuck, keys_behind, next_rooms
from keyrooms.opening import bars_house, told_opening

from helper import held, key_number, large_houses, row_house, some_houses, soon, told

OPEN = (["a", "b"], [(["a"], ["c"]), (["b"], []), (["c"], ["d", "a"]), (["a"], [])])
SHUT = (["x", "x"], [(["b"], ["a"]), (["x"], ["y"]), (["a"], ["b"]), (["x"], [])])
SHORT = (["b", "a"], [(["b"], ["a"]), (["c"], ["y"]), (["a"], []), (["a"], [])])
SEVERAL = (["b", "a", "a"], [(["a", "a"], ["b", "a"]), (["a", "b"], []), (["b", "c"], ["a"])])


def asked():
    """Each function with things that it answers."""
    questions = []
    for house in [OPEN, SHUT, SHORT, SEVERAL, ([], []), (["a"], [])]:
        for deed in [is_house, is_plain, kinds_counted, kinds_that_come, rooms_that_come]:
            questions.append((deed, (house,)))
        for deed in [keys_behind, next_rooms, is_stuck]:
            questions.append((deed, (house, [])))
            if house[1] and house != SHUT:
                questions.append((deed, (house, [0])))
    for house in [OPEN, SHUT, SHORT, ([], [])]:
        questions.append((told_opening, (house,)))
        questions.append((bars_house, (house, ("shut", ["a", "b"]))))
        questions.append((bars_house, (house, ("few", "c", 0, 1))))
    return questions


def not_answered():
    """Each function with things that it refuses."""
    wrong = ([["b", "a"]], [(["a"], ["b", "a"])])
    several = ([["b", "a"][0], "a"], [(["a", "a"], ["b", "a"])])
    questions = [(deed, (wrong,)) for deed in [is_plain, kinds_counted, kinds_that_come, rooms_that_come,
                                               told_opening]]
    for deed in [keys_behind, next_rooms, is_stuck]:
        questions.append((deed, (wrong, [0])))
        questions.append((deed, (OPEN, [1, 0, 0])))
        questions.append((deed, (OPEN, [0, [1], {2: [3]}])))
        questions.append((deed, (OPEN, {0: [1]})))
    questions.append((told_opening, (several,)))
    questions.append((bars_house, (several, ("shut", ["b", "a"]))))
    questions.append((bars_house, (wrong, ("shut", ["b", "a"]))))
    return questions


def spoil(answer):
    """Change each list and dict of an answer."""
    for thing in held(answer):
        if isinstance(thing, dict):
            thing["zzzz"] = (9, 9)
        else:
            thing.reverse()
            thing.append("zzzz")


class StandApart(unittest.TestCase):

    def test_what_is_handed_in_stays(self):
        for deed, handed in asked():
            told(self, deed, *copy.deepcopy(handed))

    def test_what_is_refused_changes_nothing(self):
        for deed, handed in not_answered():
            before = copy.deepcopy(handed)
            with self.assertRaises(KeyroomError):
                deed(*handed)
            self.assertEqual(repr(handed), repr(before))

    def test_the_same_is_answered_the_same(self):
        for deed, handed in asked():
            first = deed(*handed)
            self.assertEqual(repr(deed(*handed)), repr(first))
            self.assertEqual(repr(deed(*copy.deepcopy(handed))), repr(first))

    def test_what_is_told_is_the_askers_own(self):
        for deed, handed in asked():
            first = deed(*handed)
            due = repr(first)
            spoil(first)
            again = deed(*handed)
            self.assertEqual(repr(again), due)
            spoil(again)
            self.assertEqual(repr(deed(*copy.deepcopy(handed))), due)

    def test_no_two_told_are_one(self):
        kept = [deed(*handed) for deed, handed in asked() + asked()]
        inner = [id(thing) for answer in kept for thing in held(answer)]
        self.assertEqual(len(inner), len(set(inner)))

    def test_what_is_changed_after_being_handed_in_is_seen(self):
        house = (["a"], [(["a"], ["b"])])
        self.assertEqual(told_opening(house), ("all", [0]))
        self.assertEqual(keys_behind(house, [0]), ["b"])
        house[1].append((["c"], ["c"]))
        self.assertEqual(told_opening(house), ("shut", ["c"]))
        self.assertEqual(rooms_that_come(house), [0])
        house[1][0][1].append("c")
        self.assertEqual(told_opening(house), ("all", [0, 1]))
        self.assertEqual(keys_behind(house, [0]), ["b", "c"])
        self.assertEqual(kinds_counted(house), {"a": (1, 1), "b": (1, 0), "c": (2, 1)})
        house[0].clear()
        self.assertEqual(told_opening(house), ("few", "a", 0, 1))
        self.assertEqual(kinds_that_come(house), [])
        house[1][0][0].append("a")
        self.assertIs(is_plain(house), False)
        house[1][0][0].append("A")
        self.assertIs(is_house(house), False)

    def test_lists_that_are_one_within_a_house(self):
        keys = ["a"]
        house = (keys, [(keys, keys), (keys, keys)])
        self.assertEqual(told(self, keys_behind, house, [0, 1]), ["a"])
        self.assertEqual(told(self, kinds_counted, house), {"a": (3, 2)})
        self.assertEqual(told(self, told_opening, house)[0], "all")
        self.assertEqual(keys, ["a"])


class KindsOfAnswers(unittest.TestCase):

    def test_lists_are_lists_of_their_kind(self):
        for house in some_houses(41, 100, 2):
            for deed, handed, inner in [(keys_behind, (house, []), str), (next_rooms, (house, []), int),
                                        (kinds_that_come, (house,), str), (rooms_that_come, (house,), int)]:
                answer = told(self, deed, *handed)
                self.assertIs(type(answer), list)
                self.assertTrue(all(type(thing) is inner for thing in answer))

    def test_truths_are_truths(self):
        for house in some_houses(42, 100, 2):
            for deed, handed in [(is_house, (house,)), (is_plain, (house,)), (is_stuck, (house, []))]:
                self.assertIs(type(told(self, deed, *handed)), bool)

    def test_tuples_are_tuples_of_their_kinds(self):
        forms = {"all": ("all", list), "few": ("few", str, int, int), "shut": ("shut", list)}
        for house in some_houses(43, 200, 1):
            answer = told(self, told_opening, house)
            self.assertIs(type(answer), tuple)
            self.assertEqual(tuple(type(thing) for thing in answer[1:]), forms[answer[0]][1:])
            if answer[0] != "few":
                inner = int if answer[0] == "all" else str
                self.assertTrue(all(type(thing) is inner for thing in answer[1]))


class Sizes(unittest.TestCase):

    def test_sixty_rooms_and_280_keys(self):
        several = (["a"] * 40, [(["a", "a", "a", "a"], ["a"] * 4) for number in range(60)])
        sizes = []
        with soon():
            for house in large_houses() + [row_house(60), several]:
                sizes.append((len(house[1]), key_number(house)))
                self.assertIs(told(self, is_house, house), True)
                self.assertIs(told(self, is_plain, house), house != several)
                order = told(self, told_opening, house)[1] if house != several else list(range(60))
                behind = told(self, keys_behind, house, order)
                self.assertEqual(len(behind), key_number(house) - sum(len(locks) for locks, keys in house[1]))
                self.assertEqual(told(self, next_rooms, house, order), [])
                self.assertIs(told(self, is_stuck, house, order), True)
                self.assertIs(told(self, is_stuck, house, order[:-1]), False)
                self.assertEqual(told(self, rooms_that_come, house), list(range(len(house[1]))))
                counts = told(self, kinds_counted, house)
                self.assertEqual(sum(keys for keys, locks in counts.values()), key_number(house))
                self.assertEqual(told(self, kinds_that_come, house), sorted(counts))
        self.assertGreaterEqual(sizes.count((60, 280)), 3)


if __name__ == "__main__":
    unittest.main()
