"""Points [4], [17], [18] and [19]: the most rooms, the most worth, and papers that no more can be had."""

import itertools
import random
import unittest

from keyrooms.errors import NoNumber, TooMany
from keyrooms.most import most_rooms, most_worth, stuck_sets, worth_paper, worth_shows

from helper import (every_order, free_house, mixed_houses, opened, refused, row_house, some_houses, soon, stuck_orders,
                    told, too_large_houses)

GREAT = 10 ** 30 - 1

# The one key opens room 0, or room 1 and then room 2, or room 3.
FORK = (["a"], [(["a"], []), (["a"], ["b"]), (["b"], []), (["a"], [])])

NO_WORTHS = [None, True, 0, 4, "", "1234", b"1234", (1, 2, 3, 4), {}, {0: 1, 1: 1, 2: 1, 3: 1}, {1, 2, 3, 4}, object(),
             range(4), [], [1], [1, 2, 3], [1, 2, 3, 4, 5], [0] * 400, [1, 2, 3, -1], [-1, 2, 3, 4], [-GREAT, 0, 0, 0],
             [1, 2, 3, True], [False, 2, 3, 4], [1, None, 3, 4], [1, "2", 3, 4], [1, [2], 3, 4], [1, 2, (3,), 4],
             [[], [], [], []], [1, 2, 3, {}]]


def some_worths(seed, houses):
    """The houses, each with worths of its rooms, often alike or 0."""
    chance = random.Random(seed)
    return [(house, [chance.choice([0, 0, 1, 1, 2, 3, GREAT]) for room in house[1]]) for house in houses]


def together(worths, numbers):
    """What rooms are worth together."""
    return sum(worths[number] for number in numbers)


def in_hand(house, numbers):
    """How many keys of each kind are in hand behind a set of rooms, whether an order opens it or not."""
    kinds = {lock for locks, keys in house[1] for lock in locks}
    counts = {kind: house[0].count(kind) for kind in kinds}
    for number in numbers:
        for kind in kinds:
            counts[kind] += house[1][number][1].count(kind) - house[1][number][0].count(kind)
    return counts


def shows_by_words(house, worths, paper, worth):
    """Whether a paper shows a worth, word by word."""
    many = len(house[1])
    for inner in paper:
        if inner != sorted(set(inner)) or not all(0 <= number < many for number in inner):
            return False
        if together(worths, inner) > worth:
            return False
        counts = in_hand(house, inner)
        for number, (locks, keys) in enumerate(house[1]):
            served = all(counts[kind] >= locks.count(kind) for kind in locks)
            if number not in inner and served and sorted(inner + [number]) not in paper:
                return False
    alone = [inner for at, inner in enumerate(paper) if inner not in paper[:at]]
    return [] in paper and paper == sorted(alone)


class MostRooms(unittest.TestCase):

    def most(self, house):
        """What is told, once it is seen to be a tuple of a number and a list."""
        answer = told(self, most_rooms, house)
        self.assertIs(type(answer), tuple)
        self.assertEqual([type(thing) for thing in answer], [int, list])
        self.assertTrue(all(type(number) is int for number in answer[1]))
        return answer

    def test_none(self):
        for house in [([], []), (["a"], []), ([], [(["a"], ["a"])]), (["a"], [(["a", "a"], [])])]:
            self.assertEqual(self.most(house), (0, []))

    def test_some(self):
        self.assertEqual(self.most(FORK), (2, [1, 2]))
        self.assertEqual(self.most((["a", "a"], FORK[1])), (3, [0, 1, 2]))
        self.assertEqual(self.most((["a"], [(["a"], []), (["a"], ["b"]), (["b"], ["a"])])), (3, [1, 2, 0]))
        self.assertEqual(self.most((["a", "b"], [(["a", "b"], []), (["b"], []), (["a"], [])])), (2, [1, 2]))

    def test_the_first_of_several(self):
        self.assertEqual(self.most((["a"], [(["c"], []), (["a"], []), (["a"], [])])), (1, [1]))
        house = (["a"], [(["b"], []), (["c"], []), (["a"], ["c"]), (["a"], ["b"])])
        self.assertEqual(self.most(house), (2, [2, 1]))

    def test_against_all_orders(self):
        partly = 0
        for house in mixed_houses(81):
            orders = every_order(house)
            many = max(len(order) for order in orders)
            self.assertEqual(self.most(house), (many, min(order for order in orders if len(order) == many)))
            partly += 0 < many < len(house[1])
        self.assertGreater(partly, 100)

    def test_twelve_rooms(self):
        with soon():
            self.assertEqual(self.most(free_house(12)), (12, list(range(12))))
            self.assertEqual(self.most(free_house(12, 4)), (12, list(range(12))))
            keys, rooms = free_house(12, 2)
            self.assertEqual(self.most((keys[:11], rooms)), (5, [0, 1, 2, 3, 4]))
            self.assertEqual(self.most(row_house(12)), (12, list(range(11, -1, -1))))

    def test_too_many(self):
        for house in too_large_houses():
            refused(self, TooMany, most_rooms, house)


class StuckSets(unittest.TestCase):

    def sets(self, house):
        """What is told, once it is seen to be a list of lists of numbers."""
        answer = told(self, stuck_sets, house)
        self.assertIs(type(answer), list)
        self.assertTrue(all(type(inner) is list for inner in answer))
        self.assertTrue(all(type(number) is int for inner in answer for number in inner))
        return answer

    def test_none_may_be_opened(self):
        for house in [([], []), (["a"], []), ([], [(["a"], ["a"])]), (["a"], [(["a", "a"], [])])]:
            self.assertEqual(self.sets(house), [[]])

    def test_some(self):
        self.assertEqual(self.sets(FORK), [[0], [1, 2], [3]])
        self.assertEqual(self.sets((["a", "a"], FORK[1])), [[0, 1, 2], [0, 3], [1, 2, 3]])
        self.assertEqual(self.sets((["a"], [(["a"], []), (["a"], ["b"]), (["b"], ["a"])])), [[0], [0, 1, 2]])
        self.assertEqual(self.sets(free_house(3)), [[0, 1, 2]])

    def test_sorted_as_lists_of_numbers(self):
        keys, rooms = free_house(12)
        self.assertEqual(self.sets((["a"], rooms)), [[number] for number in range(12)])
        pairs = [list(pair) for pair in itertools.combinations(range(12), 2)]
        self.assertEqual(self.sets((["a", "a"], rooms)), pairs)

    def test_against_all_orders(self):
        several = 0
        for house in mixed_houses(84):
            due = sorted(list(inner) for inner in {tuple(sorted(order)) for order in stuck_orders(house)})
            self.assertEqual(self.sets(house), due)
            several += len(due) > 1
        self.assertGreater(several, 50)

    def test_twelve_rooms(self):
        keys, rooms = free_house(12)
        with soon():
            self.assertEqual(self.sets(free_house(12, 3)), [list(range(12))])
            some = [list(inner) for inner in itertools.combinations(range(12), 6)]
            self.assertEqual(self.sets((keys[:6], rooms)), some)

    def test_too_many(self):
        for house in too_large_houses():
            refused(self, TooMany, stuck_sets, house)


class MostWorth(unittest.TestCase):

    def most(self, house, worths):
        """What is told, once it is seen to be a tuple of a number and a list."""
        answer = told(self, most_worth, house, worths)
        self.assertIs(type(answer), tuple)
        self.assertEqual([type(thing) for thing in answer], [int, list])
        self.assertTrue(all(type(number) is int for number in answer[1]))
        return answer

    def test_none(self):
        for house in [([], []), (["a"], [])]:
            self.assertEqual(self.most(house, []), (0, []))
        self.assertEqual(self.most(([], [(["a"], ["a"])]), [5]), (0, []))

    def test_some(self):
        self.assertEqual(self.most(FORK, [5, 2, 2, 4]), (5, [0]))
        self.assertEqual(self.most(FORK, [5, 2, 4, 4]), (6, [1, 2]))
        self.assertEqual(self.most(FORK, [1, 1, 1, 3]), (3, [3]))

    def test_the_fewest_rooms_go_ahead_of_the_first(self):
        self.assertEqual(self.most(FORK, [0, 2, 2, 4]), (4, [3]))
        self.assertEqual(self.most((["a", "a"], FORK[1]), [0, 3, 0, 3]), (6, [1, 3]))
        self.assertEqual(self.most((["b", "a", "a"], FORK[1]), [0, 1, 1, 2]), (4, [1, 2, 3]))
        house = (["a", "c"], [(["a"], ["b"]), (["b"], []), (["c"], [])])
        self.assertEqual(self.most(house, [0, 0, 7]), (7, [2]))

    def test_the_first_of_as_few(self):
        self.assertEqual(self.most(FORK, [4, 2, 2, 4]), (4, [0]))
        self.assertEqual(self.most(FORK, [3, 4, 0, 4]), (4, [1]))

    def test_rooms_of_no_worth_that_lead_on(self):
        self.assertEqual(self.most(FORK, [1, 0, 9, 2]), (9, [1, 2]))
        self.assertEqual(self.most(row_house(12), [1] + [0] * 11), (1, list(range(11, -1, -1))))
        self.assertEqual(self.most(row_house(12), [0] * 6 + [1] + [0] * 5), (1, [11, 10, 9, 8, 7, 6]))

    def test_nothing_of_worth(self):
        self.assertEqual(self.most(FORK, [0, 0, 0, 0]), (0, []))
        self.assertEqual(self.most(free_house(12), [0] * 12), (0, []))

    def test_great_worths(self):
        self.assertEqual(self.most(FORK, [GREAT, GREAT - 1, 0, GREAT]), (GREAT, [0]))
        self.assertEqual(self.most(FORK, [GREAT, GREAT - 1, 2, GREAT]), (GREAT + 1, [1, 2]))
        self.assertEqual(self.most(free_house(12), [GREAT] * 12), (12 * GREAT, list(range(12))))

    def test_against_all_orders(self):
        for house, worths in some_worths(87, mixed_houses(87)):
            orders = every_order(house)
            worth = max(together(worths, order) for order in orders)
            best = [order for order in orders if together(worths, order) == worth]
            fewest = min(len(order) for order in best)
            due = min(order for order in best if len(order) == fewest)
            self.assertEqual(self.most(house, worths), (worth, due))

    def test_twelve_rooms(self):
        keys, rooms = free_house(12)
        with soon():
            self.assertEqual(self.most((keys[:5], rooms), list(range(12))), (45, [7, 8, 9, 10, 11]))
            self.assertEqual(self.most(free_house(12, 4), [1] * 6 + [0] * 6), (6, [0, 1, 2, 3, 4, 5]))

    def test_no_number(self):
        for worths in NO_WORTHS:
            before = repr(worths)
            refused(self, NoNumber, most_worth, FORK, worths)
            self.assertEqual(repr(worths), before)
        for worths in [None, (), {}, "", [0], [[]], True]:
            refused(self, NoNumber, most_worth, ([], []), worths)

    def test_too_many(self):
        for house in too_large_houses():
            for worths in [[0] * len(house[1]), [1] * 12, [], [-1] * 13, None, "a"]:
                refused(self, TooMany, most_worth, house, worths)


class WorthPaper(unittest.TestCase):

    def paper_of(self, house, worths):
        """The paper told, once it is seen to have its form and to show just the most worth."""
        paper = told(self, worth_paper, house, worths)
        self.assertIs(type(paper), list)
        self.assertTrue(all(type(inner) is list for inner in paper))
        worth = most_worth(house, worths)[0]
        for other in [worth, worth + 1, worth + 2, worth + GREAT]:
            self.assertIs(told(self, worth_shows, house, worths, paper, other), True)
        for other in [worth - 1, worth - 2, -1, -GREAT]:
            self.assertIs(told(self, worth_shows, house, worths, paper, other), False)
        return paper

    def test_none(self):
        self.assertEqual(self.paper_of(([], []), []), [[]])
        self.assertEqual(self.paper_of((["a"], []), []), [[]])

    def test_some(self):
        paper = self.paper_of(FORK, [1, 2, 3, 4])
        for inner in [[], [0], [1], [1, 2], [3]]:
            self.assertIn(inner, paper)

    def test_small_houses(self):
        for house, worths in some_worths(90, mixed_houses(90)):
            paper = self.paper_of(house, worths)
            worth = max(together(worths, order) for order in every_order(house))
            self.assertTrue(shows_by_words(house, worths, paper, worth))
            self.assertFalse(shows_by_words(house, worths, paper, worth - 1))

    def test_twelve_rooms(self):
        with soon():
            self.assertEqual(len(self.paper_of(free_house(12), [GREAT] * 12)), 4096)
            self.assertEqual(len(self.paper_of(free_house(12, 4), list(range(12)))), 4096)
            self.paper_of(row_house(12), list(range(12)))

    def test_no_number(self):
        for worths in NO_WORTHS:
            refused(self, NoNumber, worth_paper, FORK, worths)
        refused(self, NoNumber, worth_paper, ([], []), [0])

    def test_too_many(self):
        for house in too_large_houses():
            for worths in [[0] * len(house[1]), [], [-1] * 13, None]:
                refused(self, TooMany, worth_paper, house, worths)


class WorthShows(unittest.TestCase):

    WORTHS = [1, 2, 3, 4]
    PAPER = [[], [0], [1], [1, 2], [3]]

    def shows(self, paper, worth, house=FORK, worths=None):
        """Whether the paper shows the worth, once it is seen to be told as a truth."""
        answer = told(self, worth_shows, house, self.WORTHS if worths is None else worths, paper, worth)
        self.assertIs(type(answer), bool)
        return answer

    def test_the_right_one(self):
        for worth in [5, 6, 7, GREAT]:
            self.assertTrue(self.shows(self.PAPER, worth))
        for worth in [4, 3, 1, 0, -1, -GREAT]:
            self.assertFalse(self.shows(self.PAPER, worth))

    def test_one_set_out(self):
        for at in range(len(self.PAPER)):
            self.assertFalse(self.shows(self.PAPER[:at] + self.PAPER[at + 1:], 99))

    def test_without_the_set_of_nothing(self):
        self.assertFalse(self.shows([], 99))
        self.assertFalse(self.shows([[0], [1], [1, 2], [3]], 99))
        self.assertFalse(self.shows([[1, 2]], 99))
        self.assertFalse(self.shows([], 99, ([], []), []))
        self.assertTrue(self.shows([[]], 0, ([], []), []))

    def test_a_set_twice(self):
        for at in range(len(self.PAPER)):
            self.assertFalse(self.shows(self.PAPER[:at] + self.PAPER[at:at + 1] + self.PAPER[at:], 99))

    def test_an_unsorted_set(self):
        self.assertFalse(self.shows([[], [0], [1], [2, 1], [3]], 99))
        self.assertFalse(self.shows([[], [0], [1], [1, 2], [2, 1], [3]], 99))

    def test_sets_not_sorted(self):
        for paper in itertools.permutations(self.PAPER):
            self.assertEqual(self.shows(list(paper), 99), list(paper) == self.PAPER)

    def test_sets_sorted_by_how_many(self):
        self.assertFalse(self.shows([[], [0], [1], [3], [1, 2]], 99))

    def test_a_number_that_is_no_rooms(self):
        for inner in [[4], [3, 4], [5], [GREAT]]:
            self.assertFalse(self.shows(self.PAPER + [inner], GREAT * 9))
        for inner in [[-1], [-4], [-1, 0], [-GREAT]]:
            self.assertFalse(self.shows(sorted(self.PAPER + [inner]), GREAT))
        self.assertFalse(self.shows([[], [0]], 99, ([], []), []))

    def test_a_number_twice(self):
        self.assertFalse(self.shows([[], [0], [0, 0], [1], [1, 2], [3]], 99))
        self.assertFalse(self.shows([[], [0], [1], [1, 1, 2], [1, 2], [3]], 99))
        self.assertFalse(self.shows([[], [0], [1], [1, 2], [1, 2, 2], [3]], 99))

    def test_more_sets_than_any_order_opens(self):
        # Behind room 2 alone a further key is still in hand, so what it leads to must be there too.
        more = [[], [0], [0, 1, 2], [1], [1, 2], [3]]
        self.assertTrue(self.shows(more, 6))
        self.assertFalse(self.shows(more, 5))
        self.assertFalse(self.shows(sorted(self.PAPER + [[2]]), 99))
        self.assertTrue(self.shows(sorted(self.PAPER + [[2], [0, 2], [2, 3]]), 7))
        self.assertFalse(self.shows(sorted(self.PAPER + [[2], [0, 2], [2, 3]]), 6))
        self.assertTrue(self.shows(sorted(list(inner) for many in range(5)
                                          for inner in itertools.combinations(range(4), many)), 10))

    def test_by_count_also_below_none(self):
        # Behind rooms 0 and 1 a key of kind a is owed, and one of kind b is in hand.
        house = (["a"], [(["a"], ["b"]), (["a"], []), (["b"], []), (["a", "b"], [])])
        paper = [[], [0], [0, 2], [1]]
        self.assertTrue(self.shows(paper, 4, house))
        self.assertFalse(self.shows(sorted(paper + [[0, 1]]), 99, house))
        self.assertTrue(self.shows(sorted(paper + [[0, 1], [0, 1, 2]]), 6, house))

    def test_worth_of_the_sets_alone(self):
        self.assertTrue(self.shows(self.PAPER, 0, FORK, [0, 0, 0, 0]))
        self.assertFalse(self.shows(self.PAPER, -1, FORK, [0, 0, 0, 0]))
        self.assertTrue(self.shows(self.PAPER, 2 * GREAT, FORK, [GREAT] * 4))
        self.assertFalse(self.shows(self.PAPER, 2 * GREAT - 1, FORK, [GREAT] * 4))

    def test_truths_are_no_numbers(self):
        self.assertFalse(self.shows([[], [False], [True], [True, 2], [3]], 99))
        self.assertFalse(self.shows([[], [0], [True], [1, 2], [3]], 99))

    def test_as_the_words_say(self):
        chance = random.Random(93)
        shown = {True: 0, False: 0}
        for house, worths in some_worths(94, some_houses(94, 200, 1, 4) + some_houses(95, 200, 2, 4)):
            many = len(house[1])
            every = [list(inner) for size in range(many + 1) for inner in itertools.combinations(range(many), size)]
            told_one = worth_paper(house, worths)
            worth = most_worth(house, worths)[0]
            for each in range(12):
                further = chance.sample(every, min(len(every), chance.randint(0, 3)))
                paper = sorted(told_one + [inner for inner in further if inner not in told_one])
                if chance.random() < 0.3:
                    paper.pop(chance.randrange(len(paper)))
                for other in [worth - 1, worth, worth + 1, sum(worths)]:
                    truth = self.shows(paper, other, house, worths)
                    self.assertIs(truth, shows_by_words(house, worths, paper, other))
                    self.assertFalse(truth and other < worth)
                    shown[truth] += 1
        self.assertGreater(min(shown.values()), 2000)

    def test_long_papers(self):
        house = free_house(12)
        with soon():
            paper = worth_paper(house, [1] * 12)
            self.assertFalse(self.shows(paper[:-1], 12, house, [1] * 12))
            self.assertFalse(self.shows(paper[:2000] + paper[2001:], 12, house, [1] * 12))
            self.assertFalse(self.shows(paper + [[12]], 12, house, [1] * 12))
            self.assertFalse(self.shows([[]] * 400, 12, house, [1] * 12))
            self.assertFalse(self.shows([[], [0] * 400], 400, house, [1] * 12))

    def test_no_number(self):
        for worths in NO_WORTHS:
            for paper in [self.PAPER, [], [[9]]]:
                refused(self, NoNumber, worth_shows, FORK, worths, paper, 99)

    def test_too_many(self):
        for house in too_large_houses():
            for worths in [[0] * len(house[1]), [], [-1] * 13, None]:
                refused(self, TooMany, worth_shows, house, worths, [[]], 99)


class TheMost(unittest.TestCase):

    def test_no_order_opens_more(self):
        for house, worths in some_worths(96, some_houses(96, 150, 2)):
            many, first = most_rooms(house)
            worth, best = most_worth(house, worths)
            self.assertIsNotNone(opened(house, first))
            self.assertIsNotNone(opened(house, best))
            self.assertEqual((len(first), together(worths, best)), (many, worth))
            for order in every_order(house):
                self.assertLessEqual(len(order), many)
                self.assertLessEqual(together(worths, order), worth)


if __name__ == "__main__":
    unittest.main()
