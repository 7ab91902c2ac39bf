"""Point [22]: houses written as texts, and read back."""

import random
import re
import unittest

from keyrooms.errors import NoHouse, NoText
from keyrooms.houses import is_house
from keyrooms.texts import read_house, show_house

from helper import (BAD_KINDS, GOOD_KINDS, free_house, key_number, keys_sorted, large_houses, mixed_houses, not_houses,
                    refused, row_house, some_houses, soon, told)

SOME = (["b", "a", "b"], [(["a", "b", "b"], ["d", "c"]), (["c"], []), (["a"], ["z"])])
WRITTEN = "a b b\na+b+b: c d\nc: -\na: z"

KEYS = re.compile("-|[a-z]{1,4}( [a-z]{1,4})*")
LOCKS = re.compile(r"[a-z]{1,4}(\+[a-z]{1,4}){0,3}")


def keys_written(text):
    """Whether a text writes keys, sorted."""
    return bool(KEYS.fullmatch(text)) and sorted(text.split(" ")) == text.split(" ")


def is_writing(text):
    """Whether a text writes a house, line by line."""
    first, *lines = text.split("\n")
    if not keys_written(first):
        return False
    for line in lines:
        if line.count(": ") != 1:
            return False
        locks, keys = line.split(": ")
        if not LOCKS.fullmatch(locks) or sorted(locks.split("+")) != locks.split("+") or not keys_written(keys):
            return False
    return True


class Writing(unittest.TestCase):

    def check(self, house, due):
        """See that a house is written so."""
        text = told(self, show_house, house)
        self.assertIs(type(text), str)
        self.assertEqual(text, due)

    def test_no_keys_and_no_rooms(self):
        self.check(([], []), "-")

    def test_no_rooms(self):
        self.check((["a"], []), "a")
        self.check((["b", "abcd", "a", "b"], []), "a abcd b b")

    def test_no_keys(self):
        self.check(([], [(["a"], [])]), "-\na: -")
        self.check(([], [(["a", "b"], []), (["c"], ["d"])]), "-\na+b: -\nc: d")

    def test_one_to_four_locks(self):
        rooms = [(["a"], []), (["a", "a"], []), (["a", "b", "c"], []), (["a", "ab", "b", "zzzz"], ["a"])]
        self.check(([], rooms), "-\na: -\na+a: -\na+b+c: -\na+ab+b+zzzz: a")

    def test_keys_are_sorted_as_texts(self):
        self.check((["b", "aa", "ab", "a", "abc"], [(["a"], ["z", "y", "yy", "y"])]), "a aa ab abc b\na: y y yy z")

    def test_some(self):
        self.check(SOME, WRITTEN)

    def test_rooms_as_they_are_numbered(self):
        self.check(row_house(3), "aa\nac: ad\nab: ac\naa: ab")

    def test_no_line_end_behind_the_last(self):
        for house in mixed_houses(111):
            text = told(self, show_house, house)
            self.assertFalse(text.endswith("\n"))
            self.assertEqual(text.count("\n"), len(house[1]))

    def test_no_house(self):
        for thing in not_houses():
            refused(self, NoHouse, show_house, thing)


class Reading(unittest.TestCase):

    def read(self, text):
        """The house that is read, once it is seen to be one of tuples and lists."""
        house = told(self, read_house, text)
        self.assertIs(is_house(house), True)
        self.assertIs(type(house), tuple)
        self.assertIs(type(house[1]), list)
        self.assertTrue(all(type(room) is tuple for room in house[1]))
        return house

    def test_some(self):
        self.assertEqual(self.read("-"), ([], []))
        self.assertEqual(self.read("a"), (["a"], []))
        self.assertEqual(self.read("-\na: -"), ([], [(["a"], [])]))
        self.assertEqual(self.read("a a zzzz\na+b: c\nabcd+abcd+b+b: a b"),
                         (["a", "a", "zzzz"], [(["a", "b"], ["c"]), (["abcd", "abcd", "b", "b"], ["a", "b"])]))
        self.assertEqual(self.read(WRITTEN), keys_sorted(SOME))

    def test_read_back(self):
        for house in mixed_houses(114) + [SOME, ([], []), (GOOD_KINDS, [([kind], GOOD_KINDS) for kind in GOOD_KINDS])]:
            text = told(self, show_house, house)
            self.assertTrue(is_writing(text))
            again = self.read(text)
            self.assertEqual(again, keys_sorted(house))
            self.assertEqual(told(self, show_house, again), text)

    def test_sixty_rooms(self):
        several = (["a"] * 40, [(["a", "b", "bb", "d"], ["d", "c", "b", "a"]) for number in range(60)])
        with soon():
            for house in large_houses() + [row_house(60), free_house(60, 4), several]:
                self.assertLessEqual(key_number(house), 300)
                self.assertEqual(self.read(told(self, show_house, house)), keys_sorted(house))

    def test_one_writing_just_where_only_the_order_of_keys_differs(self):
        chance = random.Random(117)
        houses = some_houses(118, 200, 1, most_rooms=2) + some_houses(119, 100, 2, most_rooms=1)
        for keys, rooms in houses[:150]:
            houses.append((chance.sample(keys, len(keys)),
                           [(locks, chance.sample(within, len(within))) for locks, within in rooms]))
        texts = [told(self, show_house, house) for house in houses]
        forms = [keys_sorted(house) for house in houses]
        alike = 0
        for at, text in enumerate(texts):
            for place in range(at):
                self.assertEqual(text == texts[place], forms[at] == forms[place])
                alike += text == texts[place] and houses[at] != houses[place]
        self.assertGreater(alike, 50)

    def test_each_reading_is_new(self):
        first = read_house(WRITTEN)
        first[0].append("q")
        first[1][0][0].append("q")
        first[1][0][1].clear()
        first[1].pop()
        self.assertEqual(read_house(WRITTEN), keys_sorted(SOME))


class NoWriting(unittest.TestCase):

    def test_what_is_no_text(self):
        for thing in not_houses() + [SOME, b"-", b"a", ["-"], ("-",), ["a", "a: -"], {"-": "-"}, 0, True, None]:
            if not isinstance(thing, str):
                refused(self, NoText, read_house, thing)

    def test_the_empty_text_and_line_ends(self):
        for text in ["", "\n", "\n\n", "-\n", "\n-", "a\n", "\na", "-\n\na: -", "-\na: -\n", "\n-\na: -", "-\n\n",
                     "-\r\na: -", "a\r", "-\ra: -", "-\x0ba: -", "-\x0ca: -", "-\u2028a: -", "-\x85a: -"]:
            refused(self, NoText, read_house, text)

    def test_blanks_and_tabs(self):
        for text in [" ", " -", "- ", " a", "a ", "a  b", "a\tb", "\ta", "a\t", "-\na:-", "-\na : -", "-\na:  -",
                     "-\na: - ", "-\n a: -", "-\na:\t-", "-\na: \t-", "-\na +b: -", "-\na+ b: -", "-\na: b  c",
                     "-\na: b ", "-\na:b", "-\na: b\tc", "-\na:", "-\na: ", "-\na b: -", "a\u00a0b", "-\na:\u00a0-"]:
            refused(self, NoText, read_house, text)

    def test_not_sorted(self):
        for text in ["b a", "a c b", "b aa", "-\na: c b", "-\nb+a: -", "-\na+c+b: -", "-\nb+aa: -", "b a\na: -"]:
            refused(self, NoText, read_house, text)

    def test_locks_too_many_or_none(self):
        for text in ["-\na+a+a+a+a: -", "-\na+b+c+d+e: b", "-\n: -", "-\n: a", "-\n+: -", "-\na+: -", "-\n+a: -",
                     "-\na++b: -", "-\n-: -", "-\n-: a", "-\na+-: -"]:
            refused(self, NoText, read_house, text)

    def test_kinds_that_are_none(self):
        # These three write something else where they stand for a kind.
        bad = [kind for kind in BAD_KINDS if isinstance(kind, str) and kind not in ["-", "a b", "a+b"]]
        for kind in bad + ["\u00e4", "\u0430", "\u00aa"]:
            for text in [kind, "a " + kind, "-\na: " + kind, "-\na: a " + kind, "-\n" + kind + ": -"]:
                refused(self, NoText, read_house, text)

    def test_no_keys_beside_keys(self):
        for text in ["- a", "a -", "- -", "--", "-\na: - a", "-\na: a -", "-\na: - -", "-\na: --", "-a"]:
            refused(self, NoText, read_house, text)

    def test_a_missing_colon_and_one_too_many(self):
        for text in ["-\na", "-\na -", "-\n-", "-\na b", "a: -", ":", "-:", "-\na:: -", "-\na: -:", "-\na: b: c",
                     "-\na: :", "-\na; -", "-\na= -", "-; a: -", "-\na: -; b: -", "a+b\na: -", "-\na: b+c",
                     "-\na: b,c", "a,b"]:
            refused(self, NoText, read_house, text)

    def test_each_sign_otherwise(self):
        read = 0
        for text in [WRITTEN, "-\na+a+a+b: -\nabcd: a a", "aa ab b"]:
            for at in range(len(text) + 1):
                tried = [text[:at] + sign + text[at:] for sign in "ab z+-:\n\tA0;"]
                tried += [text[:at] + sign + text[at + 1:] for sign in "az +-:\n\tA"]
                tried += [text[:at] + text[at + 1:], text[:at] + text[at + 2:]]
                for other in tried:
                    if is_writing(other):
                        self.assertEqual(show_house(told(self, read_house, other)), other)
                        read += 1
                    else:
                        refused(self, NoText, read_house, other)
        self.assertGreater(read, 50)

    def test_texts_by_chance(self):
        chance = random.Random(120)
        read = 0
        for each in range(20000):
            text = "".join(chance.choice(["a", "b", "a", "-", " ", "+", ": ", "\n", "\na: "])
                           for sign in range(chance.randint(1, 7)))
            if is_writing(text):
                self.assertEqual(show_house(told(self, read_house, text)), text)
                read += 1
            else:
                refused(self, NoText, read_house, text)
        self.assertGreater(read, 200)

    def test_long_texts(self):
        refused(self, NoText, read_house, "a" * 3000)
        refused(self, NoText, read_house, " " * 3000)
        refused(self, NoText, read_house, "\n" * 3000)
        refused(self, NoText, read_house, "a " * 1500)
        self.assertEqual(len(read_house("a " * 279 + "a")[0]), 280)


if __name__ == "__main__":
    unittest.main()
