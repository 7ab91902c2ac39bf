"""Point [2]: what is handed in and what is told stand apart, and the sizes are answered."""

import copy
import unittest

from keyrooms.bought import buying_paper, buying_shows, keys_to_buy
from keyrooms.countings import kinds_counted, kinds_that_come, rooms_that_come
from keyrooms.desk import Desk
from keyrooms.errors import KeyroomError
from keyrooms.firstorder import first_order, goes_on
from keyrooms.houses import is_house, is_plain, is_stuck, keys_behind, next_rooms
from keyrooms.kinds import may_be_one, named_kinds, without_needless
from keyrooms.most import most_rooms, most_worth, stuck_sets, worth_paper, worth_shows
from keyrooms.opening import bars_house, told_opening
from keyrooms.orders import how_many_orders, how_many_stuck, nth_order, number_of_order
from keyrooms.texts import read_house, show_house

from helper import (every_order, free_house, held, key_number, keys_sorted, large_houses, row_house, some_houses, soon,
                    told)

OPEN = (["a", "b"], [(["a"], ["c"]), (["b"], []), (["c"], ["d", "a"]), (["a"], [])])
SHUT = (["x", "x"], [(["b"], ["a"]), (["x"], ["y"]), (["a"], ["b"]), (["x"], [])])
SHORT = (["b", "a"], [(["b"], ["a"]), (["c"], ["y"]), (["a"], []), (["a"], [])])
SEVERAL = (["b", "a", "a"], [(["a", "a"], ["b", "a"]), (["a", "b"], []), (["b", "c"], ["a"])])


def asked():
    """Each function with things that it answers."""
    questions = []
    for house in [OPEN, SHUT, SHORT, SEVERAL, ([], []), (["a"], [])]:
        for deed in [is_house, is_plain, kinds_counted, kinds_that_come, rooms_that_come]:
            questions.append((deed, (house,)))
        for deed in [how_many_orders, how_many_stuck, most_rooms, stuck_sets, without_needless, show_house]:
            questions.append((deed, (house,)))
        questions.append((read_house, (show_house(house),)))
        for other in [OPEN, SHUT, ([], [])]:
            questions.append((named_kinds, (house, other)))
        if house[1]:
            questions.append((may_be_one, (house, "a", "b")))
            questions.append((may_be_one, (house, "b", "a")))
        for deed in [keys_behind, next_rooms, is_stuck, goes_on]:
            questions.append((deed, (house, [])))
            if house[1] and house != SHUT:
                questions.append((deed, (house, [0])))
        worths = list(range(len(house[1]), 0, -1))
        paper = sorted([[number] for number in range(len(house[1]))] + [[]], reverse=True)
        questions.append((most_worth, (house, worths)))
        questions.append((worth_paper, (house, worths)))
        questions.append((worth_shows, (house, worths, worth_paper(house, worths), 99)))
        questions.append((worth_shows, (house, worths, paper, 99)))
    for house, order in [(OPEN, [1, 0, 2, 3]), (([], []), [])]:
        questions.append((nth_order, (house, 0)))
        questions.append((number_of_order, (house, order)))
    for house in [OPEN, SHUT, SHORT, ([], [])]:
        for deed in [told_opening, first_order, keys_to_buy, buying_paper]:
            questions.append((deed, (house,)))
        questions.append((buying_shows, (house, buying_paper(house), 0)))
        questions.append((buying_shows, (house, ({"c": 1, "a": 1}, [["b", "a"], ["a", "b"], []]), 0)))
        questions.append((bars_house, (house, ("shut", ["a", "b"]))))
        questions.append((bars_house, (house, ("few", "c", 0, 1))))
    return questions


def not_answered():
    """Each function with things that it refuses."""
    wrong = ([["b", "a"]], [(["a"], ["b", "a"])])
    several = ([["b", "a"][0], "a"], [(["a", "a"], ["b", "a"])])
    large = (["b", "a"], [(["a", "b"], ["b", "a"]) for number in range(13)])
    questions = [(deed, (wrong,)) for deed in [is_plain, kinds_counted, kinds_that_come, rooms_that_come,
                                               told_opening, without_needless, show_house, read_house]]
    questions += [(named_kinds, (wrong, several)), (named_kinds, (several, wrong)), (named_kinds, (wrong, wrong))]
    for house in [wrong, large, several]:
        for first, other in [("b", "b"), ("a", "q"), (["b", "a"], {"a": ["b"]})]:
            questions.append((may_be_one, (house, first, other)))
    for text in [["b", "a"], {"a": ["b"]}, "b a"]:
        questions.append((read_house, (text,)))
        questions.append((Desk().say, (text,)))
    for deed in [first_order, keys_to_buy, buying_paper]:
        questions += [(deed, (wrong,)), (deed, (several,))]
    for deed in [how_many_orders, how_many_stuck, most_rooms, stuck_sets]:
        questions += [(deed, (wrong,)), (deed, (large,))]
    for house in [wrong, several]:
        questions.append((buying_shows, (house, ({"b": 1, "a": 1}, [["b", "a"], []]), 1)))
    for house in [wrong, large, OPEN]:
        questions.append((goes_on, (house, [3, 3, 1])))
        questions.append((nth_order, (house, -1)))
        questions.append((number_of_order, (house, [3, 2, 1, 0])))
        for worths in [[3, 2, 1, -1], [3, 2, 1], {3: [2, 1]}]:
            questions.append((most_worth, (house, worths)))
            questions.append((worth_paper, (house, worths)))
            questions.append((worth_shows, (house, worths, [[1, 0], [1], []], 3)))
    for deed in [keys_behind, next_rooms, is_stuck, goes_on]:
        questions.append((deed, (wrong, [0])))
        questions.append((deed, (OPEN, [1, 0, 0])))
        questions.append((deed, (OPEN, [0, [1], {2: [3]}])))
        questions.append((deed, (OPEN, {0: [1]})))
    questions.append((told_opening, (several,)))
    questions.append((bars_house, (several, ("shut", ["b", "a"]))))
    questions.append((bars_house, (wrong, ("shut", ["b", "a"]))))
    return questions


def spoil(answer):
    """Change each list and dict of an answer."""
    for thing in held(answer):
        if isinstance(thing, dict):
            thing["zzzz"] = (9, 9)
        else:
            thing.reverse()
            thing.append("zzzz")


class StandApart(unittest.TestCase):

    def test_what_is_handed_in_stays(self):
        for deed, handed in asked():
            told(self, deed, *copy.deepcopy(handed))

    def test_what_is_refused_changes_nothing(self):
        for deed, handed in not_answered():
            before = copy.deepcopy(handed)
            with self.assertRaises(KeyroomError):
                deed(*handed)
            self.assertEqual(repr(handed), repr(before))

    def test_the_same_is_answered_the_same(self):
        for deed, handed in asked():
            first = deed(*handed)
            self.assertEqual(repr(deed(*handed)), repr(first))
            self.assertEqual(repr(deed(*copy.deepcopy(handed))), repr(first))

    def test_what_is_told_is_the_askers_own(self):
        for deed, handed in asked():
            first = deed(*handed)
            due = repr(first)
            spoil(first)
            again = deed(*handed)
            self.assertEqual(repr(again), due)
            spoil(again)
            self.assertEqual(repr(deed(*copy.deepcopy(handed))), due)

    def test_no_two_told_are_one(self):
        kept = [deed(*handed) for deed, handed in asked() + asked()]
        inner = [id(thing) for answer in kept for thing in held(answer)]
        self.assertEqual(len(inner), len(set(inner)))

    def test_what_is_changed_after_being_handed_in_is_seen(self):
        house = (["a"], [(["a"], ["b"])])
        self.assertEqual(told_opening(house), ("all", [0]))
        self.assertEqual(keys_behind(house, [0]), ["b"])
        house[1].append((["c"], ["c"]))
        self.assertEqual(told_opening(house), ("shut", ["c"]))
        self.assertEqual(rooms_that_come(house), [0])
        house[1][0][1].append("c")
        self.assertEqual(told_opening(house), ("all", [0, 1]))
        self.assertEqual(keys_behind(house, [0]), ["b", "c"])
        self.assertEqual(kinds_counted(house), {"a": (1, 1), "b": (1, 0), "c": (2, 1)})
        self.assertEqual(first_order(house), [0, 1])
        self.assertEqual(keys_to_buy(house), [])
        self.assertEqual(nth_order(house, 0), [0, 1])
        self.assertEqual(most_rooms(house), (2, [0, 1]))
        worths = [2, 3]
        self.assertEqual(most_worth(house, worths), (5, [0, 1]))
        worths[1] = 0
        self.assertEqual(most_worth(house, worths), (2, [0]))
        self.assertEqual(without_needless(house), (["a"], [(["a"], ["c"]), (["c"], ["c"])]))
        self.assertEqual(show_house(house), "a\na: b c\nc: c")
        self.assertIs(may_be_one(house, "a", "c"), False)
        self.assertEqual(named_kinds(house, house), {"a": "a", "b": "b", "c": "c"})
        house[0].clear()
        self.assertIsNone(first_order(house))
        self.assertIs(goes_on(house, []), False)
        self.assertEqual(keys_to_buy(house), ["a"])
        self.assertEqual(how_many_orders(house), 0)
        self.assertEqual(most_worth(house, worths), (0, []))
        self.assertEqual(told_opening(house), ("few", "a", 0, 1))
        self.assertIs(may_be_one(house, "a", "c"), True)
        self.assertEqual(show_house(house), "-\na: b c\nc: c")
        self.assertIsNone(named_kinds(house, (["a"], house[1])))
        self.assertEqual(kinds_that_come(house), [])
        house[1][0][0].append("a")
        self.assertIs(is_plain(house), False)
        house[1][0][0].append("A")
        self.assertIs(is_house(house), False)

    def test_lists_that_are_one_within_a_house(self):
        keys = ["a"]
        house = (keys, [(keys, keys), (keys, keys)])
        self.assertEqual(told(self, keys_behind, house, [0, 1]), ["a"])
        self.assertEqual(told(self, kinds_counted, house), {"a": (3, 2)})
        self.assertEqual(told(self, told_opening, house)[0], "all")
        self.assertEqual(told(self, first_order, house), [0, 1])
        self.assertEqual(told(self, buying_paper, ([], house[1])), ({}, [["a"]]))
        self.assertEqual(told(self, how_many_orders, house), 2)
        self.assertEqual(told(self, worth_paper, house, [1, 1]), [[], [0], [0, 1], [1]])
        self.assertEqual(told(self, without_needless, house), house)
        self.assertEqual(told(self, named_kinds, house, house), {"a": "a"})
        self.assertEqual(told(self, read_house, told(self, show_house, house)), house)
        self.assertEqual(keys, ["a"])

    def test_a_house_that_is_told_may_be_handed_in(self):
        for house in some_houses(44, 150, 2):
            less = told(self, without_needless, house)
            self.assertEqual(told(self, without_needless, less), less)
            again = told(self, read_house, told(self, show_house, house))
            self.assertEqual(again, keys_sorted(house))
            self.assertIsNotNone(told(self, named_kinds, house, again))
            orders = every_order(house)
            for handed in [less, again]:
                self.assertIs(is_house(handed), True)
                self.assertIs(is_plain(handed), is_plain(house))
                self.assertEqual(told(self, how_many_orders, handed), how_many_orders(house))
                self.assertEqual(told(self, most_rooms, handed), most_rooms(house))
                self.assertEqual([told(self, next_rooms, handed, order) for order in orders],
                                 [next_rooms(house, order) for order in orders])

    def test_what_is_told_by_the_desk_may_be_handed_in(self):
        desk = Desk()
        for row in ["keys b a", "room b+a z c", "room c -"]:
            self.assertEqual(desk.say(row), "ok")
        self.assertEqual(read_house(desk.say("show").replace("; ", "\n")),
                         (["a", "b"], [(["a", "b"], ["c", "z"]), (["c"], [])]))
        self.assertEqual(desk.say("keys " + desk.say("hand")), "ok")
        self.assertEqual(desk.say("open " + desk.say("next")), "ok")


class KindsOfAnswers(unittest.TestCase):

    def test_lists_are_lists_of_their_kind(self):
        for house in some_houses(41, 100, 2):
            for deed, handed, inner in [(keys_behind, (house, []), str), (next_rooms, (house, []), int),
                                        (kinds_that_come, (house,), str), (rooms_that_come, (house,), int)]:
                answer = told(self, deed, *handed)
                self.assertIs(type(answer), list)
                self.assertTrue(all(type(thing) is inner for thing in answer))

    def test_truths_are_truths(self):
        for house in some_houses(42, 100, 2):
            for deed, handed in [(is_house, (house,)), (is_plain, (house,)), (is_stuck, (house, [])),
                                 (may_be_one, ((house[0] + ["y", "z"], house[1]), "y", "z"))]:
                self.assertIs(type(told(self, deed, *handed)), bool)

    def test_tuples_are_tuples_of_their_kinds(self):
        forms = {"all": ("all", list), "few": ("few", str, int, int), "shut": ("shut", list)}
        for house in some_houses(43, 200, 1):
            answer = told(self, told_opening, house)
            self.assertIs(type(answer), tuple)
            self.assertEqual(tuple(type(thing) for thing in answer[1:]), forms[answer[0]][1:])
            if answer[0] != "few":
                inner = int if answer[0] == "all" else str
                self.assertTrue(all(type(thing) is inner for thing in answer[1]))


class Sizes(unittest.TestCase):

    def test_sixty_rooms_and_280_keys(self):
        several = (["a"] * 40, [(["a", "a", "a", "a"], ["a"] * 4) for number in range(60)])
        sizes = []
        with soon():
            for house in large_houses() + [row_house(60), several]:
                sizes.append((len(house[1]), key_number(house)))
                self.assertIs(told(self, is_house, house), True)
                self.assertIs(told(self, is_plain, house), house != several)
                order = told(self, told_opening, house)[1] if house != several else list(range(60))
                behind = told(self, keys_behind, house, order)
                self.assertEqual(len(behind), key_number(house) - sum(len(locks) for locks, keys in house[1]))
                self.assertEqual(told(self, next_rooms, house, order), [])
                self.assertIs(told(self, is_stuck, house, order), True)
                self.assertIs(told(self, is_stuck, house, order[:-1]), False)
                self.assertEqual(told(self, rooms_that_come, house), list(range(len(house[1]))))
                counts = told(self, kinds_counted, house)
                self.assertEqual(sum(keys for keys, locks in counts.values()), key_number(house))
                self.assertEqual(told(self, kinds_that_come, house), sorted(counts))
                self.assertEqual(sorted(told(self, named_kinds, house, house)), sorted(counts))
                self.assertEqual(told(self, read_house, told(self, show_house, house)), keys_sorted(house))
                self.assertEqual(len(told(self, without_needless, house)[1]), len(house[1]))
        self.assertGreaterEqual(sizes.count((60, 280)), 3)

    def test_twelve_rooms_and_280_keys(self):
        keys, rooms = free_house(12, 4)
        house = (keys + ["b"] * 100, [(locks, ["a", "b"] * 5 + ["c"]) for locks, within in rooms])
        self.assertEqual(key_number(house), 280)
        worths = [10 ** 30 - 1 - number for number in range(12)]
        with soon():
            order = told(self, nth_order, house, 400000000)
            self.assertEqual(told(self, number_of_order, house, order), 400000000)
            self.assertIs(told(self, goes_on, house, order[:5]), True)
            self.assertEqual(told(self, how_many_orders, house), told(self, how_many_stuck, house))
            self.assertEqual(told(self, most_rooms, house), (12, list(range(12))))
            self.assertEqual(told(self, stuck_sets, house), [list(range(12))])
            worth, best = told(self, most_worth, house, worths)
            self.assertEqual((worth, best), (sum(worths), list(range(12))))
            paper = told(self, worth_paper, house, worths)
            self.assertIs(told(self, worth_shows, house, worths, paper, worth), True)
            self.assertIs(told(self, worth_shows, house, worths, paper, worth - 1), False)


if __name__ == "__main__":
    unittest.main()
