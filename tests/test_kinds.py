"""Points [20] and [21]: needless keys, kinds that may be one, and houses that are the same but for kinds' names."""

import itertools
import random
import unittest

from keyrooms.errors import NoHouse, NoKind, TooMany
from keyrooms.houses import is_house
from keyrooms.kinds import may_be_one, named_kinds, without_needless

from helper import (BAD_KINDS, every_order, free_house, keys_sorted, kind_called, kinds_of, large_houses, mixed_houses,
                    not_houses, refused, renamed, row_house, some_houses, soon, told)

NEEDLESS = (["x", "b", "a", "x"], [(["a"], ["y", "b", "x", "a"]), (["a", "b"], ["x"]), (["b", "c"], [])])


def with_odd_keys(seed, houses):
    """The houses with keys of further kinds strewn in."""
    chance = random.Random(seed)
    strewn = []
    for keys, rooms in houses:
        parts = [list(keys)] + [list(within) for locks, within in rooms]
        for each in range(chance.randint(0, 5)):
            part = chance.choice(parts)
            part.insert(chance.randint(0, len(part)), chance.choice(["x", "aa", "bbb"]))
        strewn.append((parts[0], [(list(room[0]), part) for room, part in zip(rooms, parts[1:])]))
    return strewn


class WithoutNeedless(unittest.TestCase):

    def less(self, house):
        """The house told, once it is seen to be one."""
        answer = told(self, without_needless, house)
        self.assertIs(is_house(answer), True)
        self.assertIs(type(answer), tuple)
        self.assertTrue(all(type(room) is tuple for room in answer[1]))
        return answer

    def test_at_the_beginning_and_in_rooms(self):
        due = (["b", "a"], [(["a"], ["b", "a"]), (["a", "b"], []), (["b", "c"], [])])
        self.assertEqual(self.less(NEEDLESS), due)

    def test_all_others_as_they_stand(self):
        house = (["c", "a", "b", "a"], [(["c"], ["b", "a", "b"]), (["a", "a", "b", "b"], ["c", "a"])])
        self.assertEqual(self.less(house), house)

    def test_kinds_that_are_parts_of_others(self):
        house = (["a", "aa", "aaa", "b"], [(["aa", "ab"], ["a", "ab", "b", "aa", "ba"])])
        self.assertEqual(self.less(house), (["aa"], [(["aa", "ab"], ["ab", "aa"])]))

    def test_a_lock_without_keys_stays(self):
        self.assertEqual(self.less((["a"], [(["b"], ["a"])])), ([], [(["b"], [])]))

    def test_a_key_of_a_later_rooms_lock_is_not_needless(self):
        house = (["c"], [(["a"], ["c"]), (["b"], ["a"]), (["c"], ["b"])])
        self.assertEqual(self.less(house), house)

    def test_no_rooms(self):
        self.assertEqual(self.less(([], [])), ([], []))
        self.assertEqual(self.less((["a", "b", "a"], [])), ([], []))

    def test_sixty_rooms(self):
        with soon():
            for house in large_houses() + [row_house(60), free_house(60, 4)]:
                locks = {kind for room in house[1] for kind in room[0]}
                due = ([key for key in house[0] if key in locks],
                       [(room[0], [key for key in room[1] if key in locks]) for room in house[1]])
                self.assertEqual(self.less(house), due)
            self.assertEqual(self.less(free_house(60)), (["a"] * 60, [(["a"], []) for number in range(60)]))
            self.assertEqual(len(self.less(row_house(60))[1][0][1]), 0)

    def test_just_the_kinds_of_no_lock(self):
        for house in with_odd_keys(81, mixed_houses(82)):
            locks = {kind for room in house[1] for kind in room[0]}
            answer = self.less(house)
            self.assertEqual(answer[0], [key for key in house[0] if key in locks])
            self.assertEqual([room[0] for room in answer[1]], [room[0] for room in house[1]])
            for room, former in zip(answer[1], house[1]):
                self.assertEqual(room[1], [key for key in former[1] if key in locks])

    def test_the_same_orders(self):
        fewer = 0
        for house in with_odd_keys(83, mixed_houses(84)):
            answer = self.less(house)
            fewer += answer != house
            self.assertEqual(every_order(answer), every_order(house))
            self.assertEqual(self.less(answer), answer)
        self.assertGreater(fewer, 100)

    def test_lists_that_are_one(self):
        keys = ["a"]
        answer = self.less((keys, [(keys, keys), (keys, keys)]))
        self.assertEqual(answer, (["a"], [(["a"], ["a"]), (["a"], ["a"])]))

    def test_no_house(self):
        for thing in not_houses():
            refused(self, NoHouse, without_needless, thing)


class MayBeOne(unittest.TestCase):

    def check(self, house, first, other, due):
        """See that two kinds may be one, or not, either way about."""
        self.assertIs(told(self, may_be_one, house, first, other), due)
        self.assertIs(told(self, may_be_one, house, other, first), due)

    def test_where_they_may(self):
        self.check((["a", "b"], [(["a"], []), (["b"], [])]), "a", "b", True)
        self.check((["a", "b"], [(["a", "b"], [])]), "a", "b", True)
        self.check((["a"], [(["a"], ["b", "b"]), (["b", "b"], [])]), "a", "b", True)
        self.check(([], [(["a"], ["b"]), (["b"], ["a"])]), "a", "b", True)
        self.check((["c"], [(["c"], ["a", "b"]), (["a", "b", "c"], [])]), "a", "b", True)

    def test_where_they_may_not(self):
        self.check((["a"], [(["a"], ["b"]), (["b"], [])]), "a", "b", False)
        self.check((["a"], [(["a"], []), (["b"], [])]), "a", "b", False)
        self.check((["a", "a"], [(["a", "b"], [])]), "a", "b", False)
        self.check((["c", "a"], [(["a", "b"], ["c"]), (["c"], ["a"])]), "a", "b", False)

    def test_where_they_differ_at_the_last_step_alone(self):
        rooms = [(["c"], ["c"]), (["c"], ["c"]), (["c"], ["c", "a"]), (["a", "b"], [])]
        self.check((["c"], rooms), "a", "b", True)
        self.check((["c", "a"], rooms), "a", "b", False)

    def test_kinds_that_no_lock_is_of(self):
        self.check((["x", "y"], []), "x", "y", True)
        self.check((["a", "x"], [(["a"], ["y", "y"])]), "x", "y", True)
        self.check((["a", "x"], [(["a"], [])]), "a", "x", True)
        self.check((["a", "x"], [(["a"], []), (["a"], [])]), "a", "x", False)
        self.check(([], [(["a"], ["x"])]), "a", "x", True)
        self.check((["a"], [(["a"], ["x"]), (["a"], [])]), "a", "x", False)

    def test_locks_that_are_sorted_otherwise_when_named(self):
        self.check((["b", "c", "a"], [(["a", "b"], ["c"]), (["b", "c"], []), (["c"], [])]), "a", "c", False)
        self.check((["b", "c", "a"], [(["a", "b"], []), (["c"], [])]), "a", "c", True)
        self.check((["ab", "b", "z"], [(["ab", "b", "z"], ["ab"]), (["ab"], [])]), "ab", "z", True)

    def check_all_pairs(self, houses):
        """See of each two kinds of the houses, against all orders, whether they may be one; how often they may."""
        answers = []
        for house in houses:
            orders = every_order(house)
            for first, other in itertools.combinations(kinds_of(house), 2):
                naming = {kind: first if kind == other else kind for kind in kinds_of(house)}
                answers.append(every_order(renamed(house, naming)) == orders)
                self.check(house, first, other, answers[-1])
        return answers.count(True), answers.count(False)

    def test_against_all_orders(self):
        may, may_not = self.check_all_pairs(mixed_houses(85) + with_odd_keys(86, mixed_houses(88)))
        self.assertGreater(may, 200)
        self.assertGreater(may_not, 200)

    def test_houses_that_open_far_against_all_orders(self):
        houses = some_houses(91, 60, 2, most_rooms=6)
        may, may_not = self.check_all_pairs([(keys + ["a", "b", "c", "bb"], rooms) for keys, rooms in houses])
        self.assertGreater(may, 20)
        self.assertGreater(may_not, 20)

    def test_eight_rooms(self):
        rooms = [(["a"], []) for number in range(4)] + [(["b"], []) for number in range(4)]
        pairs = [(["a", "b"], ["a", "b"]) for number in range(8)]
        with soon():
            self.check((["a"] * 4 + ["b"] * 4, rooms), "a", "b", True)
            self.check((["a"] * 4 + ["b"] * 3, rooms), "a", "b", False)
            self.check((["a"] * 5 + ["b"] * 3, rooms), "a", "b", False)
            self.check((["a", "b"], pairs), "a", "b", True)
            self.check((["a"] * 130 + ["b"] * 130, pairs), "a", "b", True)
            self.check((["a", "a"], pairs), "a", "b", False)
            self.check(row_house(8), "aa", "ab", False)
            self.check(free_house(8), "a", "z", True)

    def test_too_many(self):
        for many in [9, 12, 13, 60]:
            for house in [free_house(many), free_house(many, 2), row_house(many), ([], row_house(many)[1])]:
                first, other = kinds_of(house)[:2]
                refused(self, TooMany, may_be_one, house, first, other)
                for wrong in [first, "zzzz", "", "A", None, 0, [], {}]:
                    refused(self, TooMany, may_be_one, house, first, wrong)
                    refused(self, TooMany, may_be_one, house, wrong, first)
                    refused(self, TooMany, may_be_one, house, wrong, wrong)

    def test_one_kind_twice(self):
        for house in [NEEDLESS, free_house(8), (["a", "x"], [])]:
            for kind in kinds_of(house):
                refused(self, NoKind, may_be_one, house, kind, kind)

    def test_a_kind_that_the_house_has_not(self):
        for house in [NEEDLESS, free_house(8), (["a", "x"], []), ([], [])]:
            for kind in kinds_of(house) + ["q"]:
                for wrong in ["q", "ab", "zzzz", "aa", "xx"]:
                    refused(self, NoKind, may_be_one, house, kind, wrong)
                    refused(self, NoKind, may_be_one, house, wrong, kind)

    def test_things_that_are_no_kinds(self):
        for thing in BAD_KINDS + not_houses():
            refused(self, NoKind, may_be_one, NEEDLESS, "a", thing)
            refused(self, NoKind, may_be_one, NEEDLESS, thing, "a")
            refused(self, NoKind, may_be_one, NEEDLESS, thing, thing)
            refused(self, NoKind, may_be_one, ([], []), thing, None)

    def test_no_house_ahead_of_all(self):
        rooms = [(["a"], ["b"]) for number in range(9)]
        for thing in not_houses() + [([], rooms + [([], [])]), ((), rooms), [[], rooms]]:
            for first, other in [("a", "b"), ("a", "a"), ("A", None), ([], {})]:
                refused(self, NoHouse, may_be_one, thing, first, other)


def shuffled(chance, house, names):
    """The house with its kinds named anew by chance out of names, and its keys in other orders."""
    kinds = kinds_of(house)
    other = renamed(house, dict(zip(kinds, chance.sample(names, len(kinds)))))
    for part in [other[0]] + [within for locks, within in other[1]]:
        chance.shuffle(part)
    return other


def some_naming(one, other):
    """Whether there is a naming, by trying all."""
    kinds = kinds_of(one)
    names = kinds_of(other)
    if len(kinds) != len(names):
        return False
    due = keys_sorted(other)
    return any(renamed(one, dict(zip(kinds, tried))) == due for tried in itertools.permutations(names))


class NamedKinds(unittest.TestCase):

    def check(self, one, other):
        """See that a naming is told that makes the one the other, and one back."""
        for house, due in [(one, other), (other, one)]:
            naming = told(self, named_kinds, house, due)
            self.assertIs(type(naming), dict)
            self.assertEqual(sorted(naming), kinds_of(house))
            self.assertEqual(sorted(naming.values()), kinds_of(due))
            self.assertEqual(renamed(house, naming), keys_sorted(due))

    def check_none(self, one, other):
        """See that no naming is told, either way about."""
        self.assertIsNone(told(self, named_kinds, one, other))
        self.assertIsNone(told(self, named_kinds, other, one))

    def test_one_naming(self):
        one = (["a", "b"], [(["a", "b"], ["c", "a"]), (["c"], [])])
        other = (["z", "c"], [(["c", "z"], ["a", "z"]), (["a"], [])])
        self.assertEqual(told(self, named_kinds, one, other), {"a": "z", "b": "c", "c": "a"})
        self.check(one, other)

    def test_names_that_cross(self):
        one = (["a"], [(["a"], ["b"]), (["b"], [])])
        other = (["b"], [(["b"], ["a"]), (["a"], [])])
        self.assertEqual(told(self, named_kinds, one, other), {"a": "b", "b": "a"})

    def test_the_same_house(self):
        for house in mixed_houses(91):
            self.check(house, house)

    def test_named_anew_with_keys_in_other_orders(self):
        chance = random.Random(92)
        names = ["a", "b", "bb", "c", "d", "abcd", "zz"]
        for house in mixed_houses(93) + with_odd_keys(94, mixed_houses(95)):
            self.check(house, shuffled(chance, house, names))

    def test_kinds_that_stand_alike_everywhere(self):
        self.check((["a", "b"], [(["a", "b"], ["a", "b"])]), (["d", "c"], [(["c", "d"], ["d", "c"])]))
        self.check((["a", "b", "c"], []), (["c", "d", "e"], []))
        self.check_none((["a", "b"], [(["a", "b"], ["a", "b"])]), (["d", "c"], [(["c", "d"], ["d", "d"])]))

    def test_one_thing_otherwise(self):
        house = (["a", "b", "b"], [(["a", "b"], ["c"]), (["c"], ["a", "c"]), (["a", "a", "d"], [])])
        others = [
            (["a", "b"], house[1]), (["a", "b", "b", "b"], house[1]), (["a", "a", "b"], house[1]),
            (["a", "b", "c"], house[1]), (["a", "b", "e"], house[1]), ([], house[1]),
            (house[0], [(["a", "b"], []), house[1][1], house[1][2]]),
            (house[0], [(["a", "b"], ["c", "c"]), house[1][1], house[1][2]]),
            (house[0], [(["a", "b"], ["e"]), house[1][1], house[1][2]]),
            (house[0], [(["a", "b"], ["c", "a"]), (["c"], ["c"]), house[1][2]]),
            (house[0], [(["a"], ["c"]), house[1][1], house[1][2]]),
            (house[0], [(["a", "a"], ["c"]), house[1][1], house[1][2]]),
            (house[0], [(["a", "b", "b"], ["c"]), house[1][1], house[1][2]]),
            (house[0], [house[1][0], house[1][1], (["a", "d", "d"], [])]),
            (house[0], [house[1][0], house[1][1], (["a", "a", "b"], [])]),
            (house[0], [house[1][1], house[1][0], house[1][2]]), (house[0], house[1][:2]),
            (house[0], house[1] + [(["a"], [])]), (house[0], house[1] + [(["e"], [])]), (house[0], []), ([], []),
        ]
        for other in others:
            self.check_none(house, other)

    def test_a_key_is_no_lock(self):
        self.check_none(([], [(["a"], ["b"])]), ([], [(["a"], ["a"])]))
        self.check_none(([], [(["a"], ["b", "b"])]), ([], [(["a", "a"], ["b"])]))
        self.check_none((["a"], [(["b"], [])]), ([], [(["b"], ["a"])]))
        self.check_none(([], [(["a"], ["a"]), (["b"], [])]), ([], [(["a"], []), (["b"], ["a"])]))

    def test_a_kind_at_another_place(self):
        houses = [(["b"], [(["a"], []) for room in range(6)])]
        for number in range(6):
            for room in [(["a", "b"], []), (["a"], ["b"])]:
                rooms = [(["a"], []) for each in range(6)]
                rooms[number] = room
                houses.append(([], rooms))
        for one, other in itertools.combinations(houses, 2):
            self.check_none(one, other)

    def test_two_kinds_that_become_one(self):
        self.check_none((["a", "b"], []), (["a", "a"], []))
        self.check_none((["a", "b"], [(["a", "b"], [])]), (["a", "a"], [(["a", "a"], [])]))
        self.check_none((["a"], [(["a"], []), (["b"], [])]), (["a"], [(["a"], []), (["a"], [])]))
        self.check_none((["a", "a", "b", "b"], []), (["a", "a", "a", "b"], []))

    def test_numbers_of_rooms_differ(self):
        self.check_none((["a"], [(["a"], [])]), (["a"], []))
        self.check_none((["a"], [(["a"], [])] * 2), (["a"], [(["a"], [])]))
        self.check_none(free_house(59), free_house(60))
        self.check_none(([], []), ([], [(["a"], [])]))

    def test_without_kinds(self):
        self.assertEqual(told(self, named_kinds, ([], []), ([], [])), {})
        self.check_none(([], []), (["a"], []))

    def test_against_all_namings(self):
        answers = []
        for seed, locks in [(96, 1), (97, 2), (98, 4)]:
            houses = some_houses(seed, 70, locks, most_rooms=2)
            for one, other in itertools.combinations(houses, 2):
                due = some_naming(one, other)
                answers.append(due)
                if due:
                    self.check(one, other)
                else:
                    self.check_none(one, other)
        self.assertGreater(answers.count(True), 40)
        self.assertGreater(answers.count(False), 1000)

    def test_nearly_the_same_against_all_namings(self):
        chance = random.Random(99)
        answers = []
        for one in [house for house in mixed_houses(100) if house[1]]:
            keys, rooms = shuffled(chance, one, ["a", "b", "c", "d"])
            part = chance.choice([keys] + [within for locks, within in rooms])
            part[:] = [chance.choice("abcd")] + part[1:]
            answers.append(some_naming(one, (keys, rooms)))
            if answers[-1]:
                self.check(one, (keys, rooms))
            else:
                self.check_none(one, (keys, rooms))
        self.assertGreater(answers.count(True), 20)
        self.assertGreater(answers.count(False), 100)

    def test_sixty_rooms_and_sixty_kinds(self):
        chance = random.Random(101)
        kinds = [kind_called(number) for number in range(60)]
        names = [kind_called(number) for number in range(100, 600)]
        alike = (list(kinds), [([kind], []) for kind in kinds])
        loose = (kinds * 4, [(["zzzz"], []) for number in range(60)])
        ring = ([], [([kind], [kinds[number - 1]] * 4) for number, kind in enumerate(kinds)])
        mixed = (chance.choices(kinds, k=40),
                 [(sorted(chance.choices(kinds, k=4)), chance.choices(kinds, k=4)) for number in range(60)])
        single = (names[:280], [([kind], []) for kind in kinds])
        with soon():
            for house in [alike, loose, ring, mixed, single] + large_houses():
                self.check(house, shuffled(chance, house, names))
                other = shuffled(chance, house, names)
                other[1][-1][1].append(other[1][0][0][0])
                self.check_none(house, other)
            self.check_none(loose, (loose[0][1:] + kinds[:1] * 2, loose[1]))
            self.check_none(loose, (loose[0][1:] + kinds[1:2], loose[1]))

    def test_no_house(self):
        good = (["a"], [(["a"], [])])
        for thing in not_houses():
            refused(self, NoHouse, named_kinds, thing, good)
            refused(self, NoHouse, named_kinds, good, thing)
            refused(self, NoHouse, named_kinds, thing, thing)


if __name__ == "__main__":
    unittest.main()
