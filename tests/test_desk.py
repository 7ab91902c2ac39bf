"""Points [1], [4], [23] and [24]: the desk, and through it the whole program."""

import copy
import random
import re
import unittest

from keyrooms.desk import Desk
from keyrooms.errors import KeyroomError, NoNumber, NoPlain, NoRow, NoStep, TooMany

from helper import (BAD_KINDS, can_be_opened, every_order, fewest, not_houses, opened, refused, some_houses, soon,
                    whole_orders)

ASKED = ["hand", "next", "gone", "all", "first", "buy", "orders", "nth 0", "nth 1", "most", "best", "show", "rooms"]

KIND = "[a-z]{1,4}"
NUMBER = "(0|[1-9][0-9]{0,8})"
KEYS = f"(-|{KIND}( {KIND})*)"
LOCKS = rf"{KIND}(\+{KIND}){{0,3}}"
ROW = re.compile(f"keys {KEYS}|room {LOCKS} {KEYS}|worth {NUMBER} {NUMBER}|(open|nth) {NUMBER}|"
                 "back|new|hand|next|gone|all|first|buy|orders|most|best|show|rooms")

# Two rooms want the one key; behind the second lies the key of the third, and there the key of the first.
FORK = ["keys a", "room a z", "room a b", "room b a y"]

# Its second door has two locks.
SEVERAL = ["keys a b", "room a a", "room a+b -"]

# Twelve rooms, each behind the one ahead of it.
ROW_OF_TWELVE = ["keys a"] + [f"room {kind} {behind}" for kind, behind in zip("abcdefghijkl", "bcdefghijklm")]

SHORT_ROWS = ["back", "new", "hand", "next", "gone", "all", "first", "buy", "orders", "most", "best", "show", "rooms"]


def desk_of(rows):
    """A new desk to which these rows were said."""
    desk = Desk()
    for row in rows:
        assert desk.say(row) == "ok", row
    return desk


def rows_of(house):
    """The rows that put a house together."""
    written = [" ".join(keys) or "-" for keys in [house[0]] + [within for locks, within in house[1]]]
    return ["keys " + written[0]] + [f"room {'+'.join(room[0])} {keys}" for room, keys in zip(house[1], written[1:])]


def answer_to(desk, row):
    """What the desk answers, or the name of its refusal."""
    try:
        return desk.say(row)
    except KeyroomError as refusal:
        return type(refusal).__name__


def everything(desk):
    """All that the desk tells, and all worths together."""
    answers = [answer_to(desk, row) for row in ASKED]
    # Worths of rooms that can't be opened are told nowhere, so a copy of the desk is given keys for all of them.
    other = copy.deepcopy(desk)
    rooms = desk.say("show").split("; ")[1:]
    other.say("keys " + (" ".join(lock for room in rooms for lock in room.split(":")[0].split("+")) or "-"))
    return answers + [other.say("best")]


class Model:
    """What a desk is due to answer, by trying all orders."""

    def __init__(self):
        self.house = ([], [])
        self.worths = []
        self.gone = []

    def put(self, house, worths):
        """Have another house, and no order gone."""
        self.house = house
        self.worths = worths
        self.gone = []
        return "ok"

    def change(self, row):
        """The answer to a row that changes something."""
        word, *rest = row.split(" ")
        keys, rooms = self.house
        if word == "new":
            return self.put(([], []), [])
        if word == "keys":
            return self.put(([kind for kind in rest if kind != "-"], rooms), self.worths)
        if word == "room":
            if len(rooms) == 12:
                return "TooMany"
            room = (sorted(rest[0].split("+")), [kind for kind in rest[1:] if kind != "-"])
            return self.put((keys, rooms + [room]), self.worths + [0])
        if word == "worth":
            if int(rest[0]) >= len(rooms):
                return "NoStep"
            self.worths[int(rest[0])] = int(rest[1])
            return "ok"
        if word == "back":
            if not self.gone:
                return "NoStep"
            self.gone = self.gone[:-1]
            return "ok"
        order = self.gone + [int(rest[0])]
        if order[-1] >= len(rooms) or opened(self.house, order) is None:
            return "NoStep"
        self.gone = order
        return "ok"

    def answers(self):
        """The answers to all rows that change nothing, each by its row."""
        keys, rooms = self.house
        orders = every_order(self.house)
        further = [order[-1] for order in orders if order and order[:-1] == self.gone]
        whole = whole_orders(self.house)
        lines = [" ".join(sorted(keys)) or "-"]
        lines += ["+".join(locks) + ": " + (" ".join(sorted(within)) or "-") for locks, within in rooms]
        due = {
            "hand": " ".join(opened(self.house, self.gone)) or "-", "next": spoken(sorted(further)),
            "gone": spoken(self.gone), "orders": str(len(whole)), "most": str(max(len(order) for order in orders)),
            "best": str(max(sum(self.worths[number] for number in order) for order in orders)),
            "show": "; ".join(lines), "rooms": str(len(rooms)), "all": "NoPlain", "first": "NoPlain", "buy": "NoPlain",
            f"nth {len(whole)}": "NoNumber", "nth 999999999": "NoNumber",
        }
        if rooms:
            due.update({f"nth {k}": spoken(order) for k, order in enumerate(whole)})
        if all(len(locks) == 1 for locks, within in rooms):
            due["first"] = spoken(whole[0] if whole else [])
            due["buy"] = str(fewest(self.house))
            due["all"] = self.opening()
        return due

    def opening(self):
        """The answer to all, of a house whose doors have one lock each."""
        keys, rooms = self.house
        if can_be_opened(self.house):
            return "yes"
        every = keys + [key for locks, within in rooms for key in within]
        locks = [locks[0] for locks, within in rooms]
        for kind in sorted(locks):
            if locks.count(kind) > every.count(kind):
                return f"few {kind} {every.count(kind)} {locks.count(kind)}"
        come = set(keys)
        for each in rooms:
            come.update(key for room in rooms if room[0][0] in come for key in room[1])
        return "shut " + " ".join(sorted(set(locks) - come))


def spoken(numbers):
    """Rooms' numbers as the desk tells them."""
    return " ".join(str(number) for number in numbers) or "none"


class AtFirst(unittest.TestCase):

    def test_neither_keys_nor_rooms(self):
        due = {"hand": "-", "next": "none", "gone": "none", "all": "yes", "first": "none", "buy": "0", "orders": "1",
               "most": "0", "best": "0", "show": "-", "rooms": "0"}
        desk = Desk()
        for row, answer in due.items():
            self.assertEqual(desk.say(row), answer)
            self.assertIs(type(desk.say(row)), str)

    def test_new_makes_all_as_at_first(self):
        desk = desk_of(FORK + ["worth 1 9", "open 1"])
        first = everything(Desk())
        self.assertNotEqual(everything(desk), first)
        self.assertEqual(desk.say("new"), "ok")
        self.assertEqual(everything(desk), first)
        for row in FORK + ["open 1"]:
            self.assertEqual(desk.say(row), "ok")
        self.assertEqual(desk.say("best"), "0")
        self.assertEqual(everything(desk), everything(desk_of(FORK + ["open 1"])))


class Rows(unittest.TestCase):

    def check(self, desk, due):
        """See that rows are answered so, one behind the other."""
        for row, answer in due:
            self.assertEqual((row, desk.say(row)), (row, answer))

    def test_keys_are_put_anew(self):
        self.check(Desk(), [("keys b a", "ok"), ("hand", "a b"), ("show", "a b"), ("keys c", "ok"), ("hand", "c"),
                            ("keys c abcd c a", "ok"), ("hand", "a abcd c c"), ("keys -", "ok"), ("hand", "-"),
                            ("show", "-")])

    def test_keys_leave_rooms_and_worths(self):
        self.check(desk_of(FORK + ["worth 1 7"]),
                   [("keys b", "ok"), ("rooms", "3"), ("show", "b; a: z; a: b; b: a y"), ("best", "7"), ("next", "2")])

    def test_rooms_are_added(self):
        self.check(Desk(), [("room a -", "ok"), ("rooms", "1"), ("show", "-; a: -"), ("room b c a b", "ok"),
                            ("rooms", "2"), ("show", "-; a: -; b: a b c"), ("keys b", "ok"), ("next", "1"),
                            ("room abcd+b z", "ok"), ("show", "b; a: -; b: a b c; abcd+b: z"), ("rooms", "3")])

    def test_locks_in_any_order_are_read_sorted(self):
        self.check(Desk(), [("room b+a -", "ok"), ("room c+a+b+a z", "ok"), ("room b+aa+b x", "ok"),
                            ("show", "-; a+b: -; a+a+b+c: z; aa+b+b: x"), ("keys a b", "ok"), ("next", "0"),
                            ("open 0", "ok"), ("hand", "-")])

    def test_worths(self):
        self.check(desk_of(FORK), [("best", "0"), ("worth 0 5", "ok"), ("best", "5"), ("worth 2 4", "ok"),
                                   ("best", "9"), ("worth 1 999999999", "ok"), ("best", "1000000008"),
                                   ("worth 1 0", "ok"), ("worth 0 0", "ok"), ("best", "4"), ("worth 2 0", "ok"),
                                   ("best", "0"), ("room b -", "ok"), ("worth 3 2", "ok"), ("best", "2")])

    def test_best_where_not_all_can_be_opened(self):
        desk = desk_of(["keys a", "room a -", "room a b", "room b -"])
        self.check(desk, [("worth 0 5", "ok"), ("worth 1 1", "ok"), ("worth 2 3", "ok"), ("best", "5"), ("most", "2"),
                          ("worth 2 5", "ok"), ("best", "6")])

    def test_the_order_goes_on_and_back(self):
        self.check(desk_of(FORK), [("gone", "none"), ("next", "0 1"), ("open 1", "ok"), ("gone", "1"), ("hand", "b"),
                                   ("next", "2"), ("open 2", "ok"), ("gone", "1 2"), ("hand", "a y"), ("open 0", "ok"),
                                   ("gone", "1 2 0"), ("hand", "y z"), ("next", "none"), ("back", "ok"),
                                   ("gone", "1 2"), ("next", "0"), ("back", "ok"), ("back", "ok"), ("gone", "none"),
                                   ("hand", "a"), ("open 0", "ok"), ("next", "none"), ("hand", "z")])

    def test_keys_and_room_let_go_of_the_order_but_not_worth(self):
        desk = desk_of(FORK)
        self.check(desk, [("open 1", "ok"), ("open 2", "ok"), ("worth 1 3", "ok"), ("gone", "1 2"), ("hand", "a y"),
                          ("keys a", "ok"), ("gone", "none"), ("hand", "a"), ("open 0", "ok"), ("room c -", "ok"),
                          ("gone", "none"), ("hand", "a"), ("open 1", "ok"), ("new", "ok"), ("gone", "none")])

    def test_all_in_its_three_answers(self):
        self.check(desk_of(FORK), [("all", "yes")])
        self.check(desk_of(["keys a", "room a -", "room a -", "room a b"]), [("all", "few a 1 3")])
        self.check(desk_of(["room b -", "room a -"]), [("all", "few a 0 1")])
        self.check(desk_of(["keys x", "room b a", "room a b", "room x -"]), [("all", "shut a b")])
        self.check(desk_of(["room abcd abcd"]), [("all", "shut abcd")])
        self.check(desk_of(["keys z"]), [("all", "yes")])

    def test_first(self):
        self.check(desk_of(FORK), [("first", "1 2 0")])
        self.check(desk_of(["keys a a", "room a -", "room a -"]), [("first", "0 1")])
        self.check(desk_of(["keys a", "room a -", "room a -"]), [("first", "none")])
        self.check(desk_of(["keys a"]), [("first", "none")])

    def test_buy(self):
        self.check(desk_of(FORK), [("buy", "0"), ("keys -", "ok"), ("buy", "1"), ("room c -", "ok"), ("buy", "2"),
                                   ("room c -", "ok"), ("buy", "3")])

    def test_orders_and_nth(self):
        desk = desk_of(["keys a b c", "room a -", "room b -", "room c -"])
        self.check(desk, [("orders", "6"), ("nth 0", "0 1 2"), ("nth 1", "0 2 1"), ("nth 3", "1 2 0"),
                          ("nth 5", "2 1 0"), ("keys a b", "ok"), ("orders", "0")])
        self.check(desk_of(SEVERAL), [("orders", "1"), ("nth 0", "0 1"), ("most", "2")])

    def test_most(self):
        self.check(desk_of(FORK), [("most", "3"), ("room a -", "ok"), ("most", "3"), ("keys -", "ok"), ("most", "0")])

    def test_what_is_asked_of_the_house_stays_whatever_is_gone(self):
        rows = ["all", "first", "buy", "orders", "nth 0", "nth 1", "most", "best", "show", "rooms"]
        for house in [FORK, SEVERAL, ["keys a b", "room a -", "room a b", "room b -"]]:
            desk = desk_of(house + ["worth 0 3", "worth 1 2"])
            before = [answer_to(desk, row) for row in rows]
            for step in ["open 0", "open 1", "open 2", "back", "open 1", "open 2", "back", "back"]:
                answer_to(desk, step)
                self.assertEqual([answer_to(desk, row) for row in rows], before)

    def test_asking_changes_nothing(self):
        desk = desk_of(FORK + ["worth 1 4", "open 1"])
        before = everything(desk)
        for row in ASKED + ASKED[::-1]:
            answer_to(desk, row)
            self.assertEqual(everything(desk), before)

    def test_two_desks_side_by_side(self):
        one, other = Desk(), Desk()
        first = everything(other)
        for row in FORK + ["worth 1 4", "open 1"]:
            self.assertEqual(one.say(row), "ok")
            self.assertEqual(everything(other), first)
        before = everything(one)
        for row in SEVERAL + ["worth 0 9", "open 0", "back", "new"]:
            self.assertEqual(other.say(row), "ok")
            self.assertEqual(everything(one), before)

    def test_twelve_rooms(self):
        kinds = "abcdefghijkl"
        desk = desk_of(["keys " + " ".join(kinds)] + [f"room {kind} z" for kind in kinds])
        with soon():
            self.check(desk, [("rooms", "12"), ("orders", "479001600"), ("nth 479001599", spoken(range(11, -1, -1))),
                              ("nth 0", spoken(range(12))), ("first", spoken(range(12))), ("all", "yes"),
                              ("most", "12"), ("buy", "0"), ("next", spoken(range(12)))])
            for number in range(12):
                self.check(desk, [(f"worth {number} 999999999", "ok"), (f"open {number}", "ok")])
            self.check(desk, [("best", "11999999988"), ("next", "none"), ("hand", " ".join(["z"] * 12)),
                              ("gone", spoken(range(12)))])


class AgainstTheModel(unittest.TestCase):

    def some_row(self, chance, many):
        """A row by chance for a desk with so many rooms."""
        keys = " ".join(chance.choice(["a", "b", "c", "bb"]) for key in range(chance.randint(0, 3))) or "-"
        several = chance.choice([1, 1, 1, 1, 1, 1, 2, 4])
        locks = "+".join(chance.choice(["a", "b", "c", "bb"]) for lock in range(several))
        number = chance.choice([chance.randint(0, many), chance.randint(0, many), 12, 999999999])
        rows = [f"open {number}"] * 6 + ["back"] * 2 + [f"worth {number} {chance.choice([0, 1, 2, 5, 999999999])}"] * 2
        rows += [f"keys {keys}"]
        if many < 5:
            rows += [f"room {locks} {keys}"] * (6 - many)
        return chance.choice(rows + (["new"] if chance.random() < 0.1 else []))

    def test_rows_by_chance(self):
        chance = random.Random(131)
        answers = []
        for each in range(120):
            desk, model = Desk(), Model()
            for step in range(25):
                row = self.some_row(chance, len(model.house[1]))
                answers.append(model.change(row))
                self.assertEqual(answer_to(desk, row), answers[-1], row)
                for asked, due in model.answers().items():
                    self.assertEqual(answer_to(desk, asked), due, (row, asked, model.house, model.gone))
        self.assertGreater(answers.count("ok"), 300)
        self.assertGreater(answers.count("NoStep"), 100)

    def test_houses_by_chance(self):
        told = []
        for house in some_houses(132, 150, 1) + some_houses(133, 100, 2) + some_houses(134, 40, 4):
            desk, model = Desk(), Model()
            for row in rows_of(house):
                self.assertEqual((desk.say(row), model.change(row)), ("ok", "ok"))
            for asked, due in model.answers().items():
                self.assertEqual(answer_to(desk, asked), due, (asked, house))
            told.append(answer_to(desk, "all").split(" ")[0])
            for order in every_order(house)[:40]:
                for number in order:
                    self.assertEqual(desk.say(f"open {number}"), "ok")
                self.assertEqual(desk.say("hand"), " ".join(opened(house, order)) or "-")
                for number in order:
                    self.assertEqual(desk.say("back"), "ok")
        for word in ["yes", "few", "shut", "NoPlain"]:
            self.assertGreater(told.count(word), 5)


class Refusals(unittest.TestCase):

    def refused_all_the_same(self, error, desk, row):
        """The refusal of a row, once all that the desk tells is seen to be as it was."""
        before = everything(desk)
        refusal = refused(self, error, desk.say, row)
        self.assertEqual(everything(desk), before)
        return refusal

    def desks(self):
        """A new desk, one with a house and an order gone, one of several locks, and one of twelve rooms."""
        return [Desk(), desk_of(FORK + ["worth 1 4", "open 1"]), desk_of(SEVERAL + ["worth 0 2", "open 0"]),
                desk_of(ROW_OF_TWELVE + ["worth 11 3", "open 0"])]

    def check_no_rows(self, rows):
        """See that no desk takes these, whatever it holds."""
        for desk in self.desks():
            before = everything(desk)
            for row in rows:
                refused(self, NoRow, desk.say, row)
            self.assertEqual(everything(desk), before)

    def test_what_is_no_text(self):
        things = [thing for thing in not_houses() if not isinstance(thing, str)]
        self.check_no_rows(things + [["hand"], ("hand",), b"hand", b"keys a", {"hand": 1}, ["keys", "a"], 3, True])

    def test_unknown_words(self):
        self.check_no_rows(["", "-", "a", "Hand", "HAND", "hands", "han", "key a", "Keys a", "rooms a -", "room: a -",
                            "close 0", "opened 0", "none", "yes", "ok", "say", "0", "keysa", "hand-", "hand;",
                            "hand;next", "show;", "buy?", "begin", "house", "gone.", "__init__", "nth", "worth", "open",
                            "keys", "room"])

    def test_words_too_many(self):
        self.check_no_rows([f"{word} {further}" for word in SHORT_ROWS for further in ["0", "a", "-", word]])
        self.check_no_rows(["open 0 1", "open 0 0", "worth 0 1 2", "nth 0 0", "keys - -", "keys - a", "keys a -",
                            "room a - -", "room a - b", "room a b -"])

    def test_words_too_few(self):
        self.check_no_rows(["keys", "room", "room a", "room a+b", "room -", "worth", "worth 0", "open", "nth"])

    def test_blanks_tabs_and_line_ends(self):
        rows = ["hand", "keys a b", "keys -", "room a+b c d", "room a -", "worth 0 1", "open 0", "nth 0", "back", "new"]
        wrong = []
        for row in rows:
            for sign in [" ", "\t", "\n", "\r", "\x0b", "\u00a0", "\u2003"]:
                wrong += [sign + row, row + sign]
            wrong += [row.replace(" ", sign) for sign in ["  ", "\t", "\n", "", " \t", "\u00a0"] if " " in row]
        self.check_no_rows(wrong + [" ", "  ", "\n", "\t", "keys ", "keys  ", "room a ", "room  a", "open ", "nth ",
                                    "worth 0 ", "worth  1", "room a+ b -", "room a +b -", "hand\nnext", "room\na -"])

    def test_numbers_that_are_none(self):
        rows = []
        for number in ["00", "01", "007", "+1", "-1", "-0", "+0", "1234567890", "0000000000", "1000000000", "1_0",
                       "1.0", "1e3", "0x1", "a", "-", "none", "\u0663", "\u00b2", "\uff11", "1,", "''", "True",
                       "9" * 40]:
            rows += [f"open {number}", f"nth {number}", f"worth {number} 0", f"worth 0 {number}"]
        for sign in [chr(code) for code in range(32, 127)]:
            if not sign.isdigit():
                rows += [f"open {sign}", f"nth 1{sign}", f"worth 0 {sign}1", f"worth {sign}0 1"]
        self.check_no_rows(rows)

    def test_kinds_that_are_none(self):
        rows = []
        # The three that are left out write keys or locks where they stand for a kind.
        for kind in [kind for kind in BAD_KINDS if isinstance(kind, str) and kind not in ["-", "a b", "a+b"]]:
            rows += [f"keys {kind}", f"keys a {kind}", f"room {kind} -", f"room a+{kind} -", f"room a {kind}",
                     f"room a b {kind}"]
        self.check_no_rows(rows)
        self.check_no_rows(["keys a+b", "room a b+c", "room - a", "room a+- b", "keys \u00e4", "room \u0430 -"])

    def test_locks_too_many(self):
        self.check_no_rows(["room a+a+a+a+a -", "room a+b+c+d+e a", "room + -", "room a+ -", "room +a -",
                            "room a++b -"])

    def test_ahead_of_all_else(self):
        # Each would be refused otherwise too: as no step, as not plain, as no number, as a room too many.
        self.check_no_rows(["open 99 99", "open 099", "worth 99 01", "worth 99 -1", "worth 99 1234567890", "back 9",
                            "nth 09", "nth 9999999999", "all ", "first 1", "buy 0", "room a", "room A -",
                            "room a+b+c+d+e -"])

    def test_just_the_rows(self):
        chance = random.Random(141)
        good = ["keys a bb", "keys -", "room a+b c", "room b -", "worth 1 20", "open 10", "nth 3"] + SHORT_ROWS
        desk = desk_of(FORK)
        found = []
        for each in range(6000):
            row = chance.choice(good)
            for change in range(chance.randint(0, 2)):
                at = chance.randint(0, len(row))
                row = row[:at] + chance.choice(["", " ", "0", "1", "a", "-", "+", "b", " a", " 7", "\n"]) + \
                    row[at + chance.randint(0, 1):]
            found.append(bool(ROW.fullmatch(row)))
            self.assertEqual(answer_to(desk, row) != "NoRow", found[-1], row)
        self.assertGreater(found.count(True), 1000)
        self.assertGreater(found.count(False), 1000)

    def test_a_rooms_number_that_is_none(self):
        for desk in self.desks():
            many = int(desk.say("rooms"))
            for number in [many, many + 1, 99, 999999999]:
                refusal = self.refused_all_the_same(NoStep, desk, f"worth {number} 7")
                self.assertIsNone(refusal.at)
                refusal = self.refused_all_the_same(NoStep, desk, f"open {number}")
                gone = desk.say("gone")
                self.assertEqual(refusal.at, 0 if gone == "none" else len(gone.split(" ")))

    def test_a_door_that_may_not_be_opened(self):
        desk = desk_of(FORK)
        self.assertEqual(self.refused_all_the_same(NoStep, desk, "open 2").at, 0)
        self.assertEqual(desk.say("open 0"), "ok")
        self.assertEqual(self.refused_all_the_same(NoStep, desk, "open 1").at, 1)
        desk = desk_of(["keys a", "room a+a -", "room a+b -"])
        self.refused_all_the_same(NoStep, desk, "open 0")
        self.refused_all_the_same(NoStep, desk, "open 1")

    def test_a_room_that_was_opened_before(self):
        desk = desk_of(["keys a a a", "room a a", "room a a", "open 0", "open 1"])
        self.assertEqual(self.refused_all_the_same(NoStep, desk, "open 0").at, 2)
        self.assertEqual(self.refused_all_the_same(NoStep, desk, "open 1").at, 2)
        self.assertEqual(desk.say("back"), "ok")
        self.assertEqual(desk.say("open 1"), "ok")

    def test_back_of_nothing(self):
        for rows in [[], FORK, SEVERAL, FORK + ["open 1", "back"], FORK + ["open 1", "keys a"]]:
            desk = desk_of(rows)
            self.assertIsNone(self.refused_all_the_same(NoStep, desk, "back").at)

    def test_no_plain(self):
        for desk in [desk_of(SEVERAL), desk_of(SEVERAL + ["open 0"]), desk_of(["room a -", "room b+b -"])]:
            for row in ["all", "first", "buy"]:
                self.refused_all_the_same(NoPlain, desk, row)
            for row in ["hand", "next", "gone", "orders", "most", "best", "show", "rooms"]:
                self.assertIs(type(desk.say(row)), str)

    def test_no_number(self):
        for rows, many in [(FORK, 1), (SEVERAL, 1), (["keys a", "room a -", "room a -"], 0), ([], 1),
                           (["keys a a a", "room a -", "room a -", "room a -"], 6)]:
            desk = desk_of(rows)
            for number in [many, many + 1, 479001600, 999999999]:
                self.refused_all_the_same(NoNumber, desk, f"nth {number}")

    def test_too_many(self):
        desk = desk_of(ROW_OF_TWELVE[:-1])
        self.assertEqual(desk.say("room a+b -"), "ok")
        self.assertEqual([desk.say("worth 11 8"), desk.say("open 0")], ["ok", "ok"])
        for row in ["room a -", "room a a", "room b+a z", "room a a"]:
            self.refused_all_the_same(TooMany, desk, row)
        self.assertEqual([desk.say("rooms"), desk.say("gone"), desk.say("orders")], ["12", "0", "0"])
        self.refused_all_the_same(NoStep, desk, "worth 12 1")
        self.refused_all_the_same(NoStep, desk, "open 12")
        self.assertEqual([desk.say("new"), desk.say("room a -"), desk.say("rooms")], ["ok", "ok", "1"])


if __name__ == "__main__":
    unittest.main()
