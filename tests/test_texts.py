"""Throws as texts [10.1, with 0.2 to 0.4]."""

import copy
import itertools
import random
import re
import unittest

from tests.helper import (FORTY_FIGURES, NO_DICE, NO_ROWS, OTHER_THINGS, asked_again, nested, refused_at_each_place,
                          refused_with, short_rows)
from throwruns.errors import NoDie, NoRow, NoText
from throwruns.texts import throws_read, throws_shown

DICE = [(1, 1), (1, 2), (9, 1), (9, 9), (1, 1, 1), (1, 2, 3), (9, 8, 7)]
LONG_ROWS = [(0,) * 20, (1, 0) * 10, (1,) * 19]
NUMBER = "(?:0|[1-9][0-9]{0,19})"
SIGNS = [chr(code) for code in range(32, 127) if code != 37] + ["\n"]
GOOD = ["die 1 1\nrow", "die 1 2\nrow 0", "die 9 1 5\nrow 2 0 1 1", "die 3 9\nrow " + " ".join(["1"] * 20)]


def read_by_the_words(text):
    """What 10.1 tells of a text: (die, row), or the number of the row that is refused."""
    rows = text.split("\n")
    if not re.fullmatch(f"die(?: {NUMBER})*", rows[0]):
        return 1
    die = tuple([int(word) for word in rows[0].split()[1:]])
    if len(die) not in (2, 3) or min(die) < 1 or max(die) > 9:
        return 1
    if len(rows) < 2 or not re.fullmatch(f"row(?: {NUMBER})*", rows[1]):
        return 2
    row = tuple([int(word) for word in rows[1].split()[1:]])
    if len(row) > 20 or [sign for sign in row if sign >= len(die)]:
        return 2
    return 3 if len(rows) > 2 else (die, row)


class TextsTest(unittest.TestCase):

    def check(self, text):
        """Check what is read from a text, or how it is refused; tell it."""
        wanted = read_by_the_words(text)
        if isinstance(wanted, tuple):
            self.assertEqual(throws_read(text), wanted, text)
            self.assertEqual(throws_shown(*wanted), text)
        else:
            refusal = refused_with(self, NoText, throws_read, text)
            self.assertEqual(refusal.row, wanted, text)
        return wanted

    def test_shown(self):
        self.assertEqual(throws_shown((1, 1), ()), "die 1 1\nrow")
        self.assertEqual(throws_shown((1, 2), (0,)), "die 1 2\nrow 0")
        self.assertEqual(throws_shown((1, 2, 9), (2, 0, 1, 1)), "die 1 2 9\nrow 2 0 1 1")
        self.assertEqual(throws_shown((9, 9), (1,) * 20), "die 9 9\nrow" + " 1" * 20)

    def test_read(self):
        self.assertEqual(throws_read("die 1 1\nrow"), ((1, 1), ()))
        self.assertEqual(throws_read("die 1 2 9\nrow 2 0 1 1"), ((1, 2, 9), (2, 0, 1, 1)))
        self.assertEqual(throws_read("die 9 9\nrow" + " 1" * 20), ((9, 9), (1,) * 20))

    def test_what_is_written_is_read_again(self):
        for die in DICE:
            for row in list(short_rows(5, len(die))) + LONG_ROWS:
                text = throws_shown(die, row)
                self.assertIs(type(text), str)
                told = throws_read(text)
                self.assertEqual(told, (die, row))
                self.assertEqual((type(told), type(told[0]), type(told[1])), (tuple, tuple, tuple))
                self.assertEqual({type(number) for number in told[0] + told[1]}, {int})
        for die in itertools.product(range(1, 10), repeat=2):
            self.assertEqual(throws_read(throws_shown(die, (1, 0))), (die, (1, 0)))
        for die in itertools.product(range(1, 10), repeat=3):
            self.assertEqual(throws_read(throws_shown(die, (2, 0))), (die, (2, 0)))

    def test_no_text(self):
        for thing in OTHER_THINGS + NO_ROWS + [0, 1, ["die 1 1", "row"], ("die 1 1\nrow",), {"die": 1},
                                               nested(8, tuple)]:
            if not isinstance(thing, str):
                kept = copy.deepcopy(thing)
                refusal = refused_with(self, NoText, throws_read, thing)
                self.assertEqual(refusal.row, 0, thing)
                self.assertEqual(thing, kept)

    def test_first_row(self):
        for first in ["", "die", "die 1", "die 1 1 1 1", "die 0 1", "die 1 0", "die 10 1", "die 1 10", "die 1 1 10",
                      "die 01 1", "die 1 01", "die 00 1", "die +1 1", "die -1 1", "die 1 -1", "die 1.0 1", "die 1  1",
                      "die  1 1", " die 1 1", "die 1 1 ", "die 1 1  ", "Die 1 1", "DIE 1 1", "dice 1 1", "di 1 1",
                      "row 1 1", "1 1", "die1 1", "die 11", "die a b", "die 1 a", "die 1\t1", "die 1,1", "die 1_0 1",
                      "die 1 100000000000000000000", "die 1 99999999999999999999", "die 1 00000000000000000001",
                      "die 0x1 1", "die (1, 1)", "die 1 1;", "die 1 1 x", "die one two", "row", "none", " ",
                      "die 1 1\r", "die 1 \u0661", "die 1 \u00b2", "die 1 1e0"]:
            for more in ["", "\nrow", "\nrow 0 1", "\nrow x", "\nrow\n", "\n"]:
                refusal = refused_with(self, NoText, throws_read, first + more)
                self.assertEqual(refusal.row, 1, first + more)

    def test_second_row(self):
        for second in ["", "row ", " row", "row 2", "row 0 2", "row 3", "row 10", "row 00", "row 01", "row 0 01",
                       "row +0",
                       "row -0", "row -1", "row 0  1", "row  0", "row 0 ", "Row", "ROW 0", "rows", "ro", "r", "row0",
                       "row a", "row 0 a", "row 0,1", "row\t0", "row 0.0", "row " + "0 " * 20 + "0", "die 1 1", "0 1",
                       "row 100000000000000000000", "row 99999999999999999999", "row 00000000000000000001",
                       "row none", "row ()", "row (0, 1)", "none", " ", "row row", "row\r", "row \u0660", "row 1_0"]:
            for text in ["die 1 1\n" + second, "die 1 1\n" + second + "\n", "die 1 1\n" + second + "\nrow"]:
                refusal = refused_with(self, NoText, throws_read, text)
                self.assertEqual(refusal.row, 2, text)
        refusal = refused_with(self, NoText, throws_read, "die 1 1")
        self.assertEqual(refusal.row, 2)
        refusal = refused_with(self, NoText, throws_read, "die 1 1 1\nrow 3")
        self.assertEqual(refusal.row, 2)
        self.assertEqual(throws_read("die 1 1 1\nrow 2"), ((1, 1, 1), (2,)))

    def test_more_rows(self):
        for text in GOOD:
            for more in ["\n", "\n\n", "\nrow", "\ndie 1 1", "\n ", "\nx", "\n" * 100, "\n" + text]:
                refusal = refused_with(self, NoText, throws_read, text + more)
                self.assertEqual(refusal.row, 3, text + more)

    def test_rows_left_out_twice_and_exchanged(self):
        for text in GOOD:
            first, second = text.split("\n")
            for rows, row in [([first], 2), ([second], 1), ([second, first], 1), ([first, first], 2),
                              ([second, second], 1),
                              ([first, first, second], 2), ([first, second, second], 3), ([first, second, first], 3),
                              (["", first, second], 1), ([first, "", second], 2), ([first, second, ""], 3), ([], 1)]:
                refusal = refused_with(self, NoText, throws_read, "\n".join(rows))
                self.assertEqual(refusal.row, row, rows)

    def test_words_more_fewer_and_others(self):
        words = ["", "0", "1", "2", "3", "9", "10", "01", "00", "-1", "+1", "x", "die", "row", "none", "1.", "/", ";",
                 "9" * 20, "1" + "0" * 20, "0" * 20 + "1", "1\n", "\n", "\n1"]
        met = set()
        for text in GOOD:
            rows = [row.split(" ") for row in text.split("\n")]
            for at, row in enumerate(rows):
                for place in range(len(row) + 1):
                    changed = [row[:place] + row[place + 1:]] + [row[:place] + [word] + row[place:] for word in words]
                    changed += [row[:place] + [word] + row[place + 1:] for word in words]
                    for other in changed:
                        met.add(self.check("\n".join([" ".join(one) for one in rows[:at] + [other] + rows[at + 1:]])))
        self.assertLessEqual({1, 2, 3, ((9, 1, 5), (2, 0, 1))}, met)

    def test_one_sign_more_fewer_and_other(self):
        met = set()
        for text in GOOD:
            for at in range(len(text) + 1):
                met.add(self.check(text[:at] + text[at + 1:]))
                for sign in SIGNS:
                    met.add(self.check(text[:at] + sign + text[at:]))
                    met.add(self.check(text[:at] + sign + text[at + 1:]))
        self.assertLessEqual({1, 2, 3, ((9, 2), (0,)), ((1, 3), (0,))}, met)

    def test_long_texts_of_all_signs(self):
        chance = random.Random(3)
        for many in (1, 10, 100, 2000):
            for time in range(20):
                self.check("".join([chance.choice(SIGNS) for at in range(many)]))
                self.check("die 1 1\n" + "".join([chance.choice("row 012\n") for at in range(many - 8)]))
                self.check("".join([chance.choice("die row012\n") for at in range(many)]))
        self.check("die 1 1\nrow" + " 0" * 500)
        self.check("1" * 2000)
        self.check("die " + "1" * 1900)

    def test_refusals_of_what_is_shown(self):
        for die in [(1, 2), (1, 2, 3)]:
            no_row = NO_ROWS + [(len(die),), (0, len(die)), [0], "row"]
            refused_at_each_place(self, throws_shown, (die, (0, 1)), [(NoDie, NO_DICE), (NoRow, no_row)])
        refused_with(self, NoRow, throws_shown, (1, 1), (2,))
        refused_with(self, NoRow, throws_shown, (1, 1), (0,) * 21)
        refused_with(self, NoDie, throws_shown, (1, FORTY_FIGURES), (0,) * 21)

    def test_same_answer_whatever_was_asked_in_between(self):
        questions = [(throws_read, text) for text in GOOD] + [(throws_shown, die, (1, 0)) for die in DICE]
        asked_again(self, questions, [(NoText, throws_read, None), (NoRow, throws_shown, (1, 1), (2,))])


if __name__ == "__main__":
    unittest.main()
