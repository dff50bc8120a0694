"""Dice, rows and runs [1.1 to 1.5, with 0.2 to 0.4]."""

import copy
import itertools
import unittest

from tests.helper import (FORTY_FIGURES, NO_ROWS, NO_SIGNS, OTHER_THINGS, greatest, nested,
                          refused_with, ring_runs_by_the_words, runs_by_the_words, short_rows)
from throwruns.errors import NoNumber, NoRow
from throwruns.rows import (die_good, longest, longest_any, ring_longest,
                            ring_runs, row_good, runs_of)

ROWS = list(short_rows(7))
LONG_ROWS = [
    (0,) * 20, (2,) * 20, (0, 1) * 10, (1,) * 19 + (0,), (0,) + (1,) * 19,
    (0, 0, 1, 1, 2, 2, 2, 0, 1, 0, 0, 0, 0, 2, 1, 1, 1, 2, 0, 0), (2, 1, 0) * 6 + (2, 2),
]


class DieGoodTest(unittest.TestCase):

    def test_all_dice(self):
        for many in (2, 3):
            for die in itertools.product(range(1, 10), repeat=many):
                self.assertIs(die_good(die), True, die)

    def test_edges(self):
        for thing in [(1, 1), (9, 9), (1, 9), (9, 1, 1), (1, 5, 9), (9, 9, 9)]:
            self.assertIs(die_good(thing), True, thing)
        bad = [(), (1,), (1, 1, 1, 1), (9,) * 4, (0, 1), (1, 0), (10, 1), (1, 10), (1, 1, 10),
               (0, 1, 1), (1, 1, 0), (1, 0, 1), (-1, 1), (1, 1, -1)]
        for thing in bad:
            self.assertIs(die_good(thing), False, thing)

    def test_other_kinds(self):
        bad = [[1, 1], [1, 2, 3], {1: 1, 2: 2}, "11", "(1, 1)", None, True, False, 2, 11,
               (True, 1), (1, True), (1, 1, True), (True, True), (1, False), (None, 1), (1, "1"),
               ("1", "2"), ([1], [1]), ((1, 1), (1, 1)), ({}, 1), FORTY_FIGURES,
               (1, FORTY_FIGURES), (-FORTY_FIGURES, 1), (1, 1, nested(7, tuple)),
               (1, nested(7, list)), nested(8, dict)]
        for thing in bad + OTHER_THINGS:
            with self.subTest(thing=thing):
                kept = copy.deepcopy(thing)
                self.assertIs(die_good(thing), False)
                self.assertEqual(thing, kept)


class RowGoodTest(unittest.TestCase):

    def test_rows(self):
        for row in ROWS + LONG_ROWS:
            self.assertIs(row_good(row), True, row)

    def test_how_many(self):
        for many in range(21):
            self.assertIs(row_good((2,) * many), True, many)
        for many in (21, 22, 40, 1000):
            self.assertIs(row_good((2,) * many), False, many)

    def test_signs(self):
        for sign in (0, 1, 2):
            self.assertIs(row_good((sign,)), True)
            self.assertIs(row_good((0,) * 19 + (sign,)), True)
        for sign in NO_SIGNS:
            for row in [(sign,), (sign, 0), (0, sign), (0,) * 19 + (sign,)]:
                self.assertIs(row_good(row), False, row)

    def test_other_kinds(self):
        for thing in NO_ROWS:
            with self.subTest(thing=thing):
                kept = copy.deepcopy(thing)
                self.assertIs(row_good(thing), False)
                self.assertEqual(thing, kept)


class RunsTest(unittest.TestCase):

    def test_told_runs(self):
        self.assertEqual(runs_of(()), [])
        self.assertEqual(runs_of((2,)), [(2, 0, 1)])
        self.assertEqual(runs_of((1, 1, 1)), [(1, 0, 3)])
        self.assertEqual(runs_of((0, 0, 1, 0)), [(0, 0, 2), (1, 2, 1), (0, 3, 1)])
        self.assertEqual(runs_of((0,) * 20), [(0, 0, 20)])
        self.assertEqual(runs_of((0, 1) * 10), [(at % 2, at, 1) for at in range(20)])

    def test_runs_by_the_words(self):
        for row in ROWS + LONG_ROWS:
            self.assertEqual(runs_of(row), runs_by_the_words(row), row)

    def test_kinds(self):
        for row in [(), (1,), (0, 0, 1)]:
            runs = runs_of(row)
            self.assertIs(type(runs), list)
            for run in runs:
                self.assertIs(type(run), tuple)
                self.assertEqual([type(part) for part in run], [int, int, int])

    def test_longest(self):
        self.assertEqual([longest((), sign) for sign in (0, 1, 2)], [0, 0, 0])
        self.assertEqual([longest((0, 0, 1, 0), sign) for sign in (0, 1, 2)], [2, 1, 0])
        self.assertEqual([longest((1,) * 20, sign) for sign in (0, 1, 2)], [0, 20, 0])
        for row in ROWS + LONG_ROWS:
            for sign in (0, 1, 2):
                self.assertEqual(longest(row, sign), greatest(runs_by_the_words(row), (sign,)), row)

    def test_longest_any(self):
        self.assertEqual(longest_any(()), 0)
        self.assertEqual(longest_any((2,)), 1)
        self.assertEqual(longest_any((0, 1, 1, 2, 2, 2, 0)), 3)
        self.assertEqual(longest_any((1,) * 20), 20)
        for row in ROWS + LONG_ROWS:
            self.assertEqual(longest_any(row), greatest(runs_by_the_words(row), (0, 1, 2)), row)


class RingRunsTest(unittest.TestCase):

    def test_told_runs(self):
        self.assertEqual(ring_runs(()), [])
        self.assertEqual(ring_runs((2,)), [(2, 0, 1)])
        self.assertEqual(ring_runs((1, 1, 1)), [(1, 0, 3)])
        self.assertEqual(ring_runs((0,) * 20), [(0, 0, 20)])
        self.assertEqual(ring_runs((0, 1)), [(0, 0, 1), (1, 1, 1)])
        self.assertEqual(ring_runs((0, 1, 0)), [(1, 1, 1), (0, 2, 2)])
        self.assertEqual(ring_runs((0, 0, 1, 2, 0)), [(1, 2, 1), (2, 3, 1), (0, 4, 3)])
        self.assertEqual(ring_runs((0, 1, 1, 0, 2)), [(0, 0, 1), (1, 1, 2), (0, 3, 1), (2, 4, 1)])
        self.assertEqual(ring_runs((0,) * 9 + (1,) + (0,) * 10), [(1, 9, 1), (0, 10, 19)])

    def test_runs_by_the_words(self):
        for row in ROWS + LONG_ROWS:
            self.assertEqual(ring_runs(row), ring_runs_by_the_words(row), row)

    def test_kinds(self):
        for row in [(), (1,), (0, 0, 1), (0, 1, 0)]:
            runs = ring_runs(row)
            self.assertIs(type(runs), list)
            for run in runs:
                self.assertIs(type(run), tuple)
                self.assertEqual([type(part) for part in run], [int, int, int])

    def test_ring_longest(self):
        self.assertEqual([ring_longest((), sign) for sign in (0, 1, 2)], [0, 0, 0])
        self.assertEqual([ring_longest((0, 1, 0), sign) for sign in (0, 1, 2)], [2, 1, 0])
        self.assertEqual([ring_longest((2,) * 20, sign) for sign in (0, 1, 2)], [0, 0, 20])
        for row in ROWS + LONG_ROWS:
            for sign in (0, 1, 2):
                wanted = greatest(ring_runs_by_the_words(row), (sign,))
                self.assertEqual(ring_longest(row, sign), wanted, row)


class RefusalsTest(unittest.TestCase):

    def test_no_row(self):
        for thing in NO_ROWS:
            with self.subTest(thing=thing):
                kept = copy.deepcopy(thing)
                for function in (runs_of, longest_any, ring_runs):
                    refused_with(self, NoRow, function, thing)
                for function in (longest, ring_longest):
                    refused_with(self, NoRow, function, thing, 0)
                self.assertEqual(thing, kept)

    def test_no_number(self):
        for sign in NO_SIGNS + OTHER_THINGS:
            for row in [(), (0,), (0, 1, 2, 0), (1,) * 20]:
                with self.subTest(sign=sign, row=row):
                    refused_with(self, NoNumber, longest, row, sign)
                    refused_with(self, NoNumber, ring_longest, row, sign)

    def test_no_row_goes_ahead_of_no_number(self):
        for row in [None, [0, 1], (3,), (True,), (0,) * 21, "0"]:
            for sign in NO_SIGNS:
                with self.subTest(row=row, sign=sign):
                    refused_with(self, NoRow, longest, row, sign)
                    refused_with(self, NoRow, ring_longest, row, sign)


class OwnAnswersTest(unittest.TestCase):

    def test_lists_are_the_asker_s_own(self):
        for function in (runs_of, ring_runs):
            for row in [(), (1,), (1, 1), (0, 0, 1), (0, 1, 0), (0, 1, 2, 2)]:
                with self.subTest(function=function.__name__, row=row):
                    told = function(row)
                    kept = list(told)
                    told.append((2, 0, 20))
                    told.reverse()
                    self.assertEqual(function(row), kept)
                    function(row).clear()
                    self.assertEqual(function(row), kept)
                    self.assertEqual(longest_any(row), greatest(runs_by_the_words(row), (0, 1, 2)))

    def test_same_answer_whatever_was_asked_in_between(self):
        def answers(row):
            return (runs_of(row), ring_runs(row), longest_any(row),
                    [(longest(row, sign), ring_longest(row, sign)) for sign in (0, 1, 2)])
        first = [answers(row) for row in LONG_ROWS]
        for thing in OTHER_THINGS:
            refused_with(self, NoRow, runs_of, thing)
        self.assertEqual([answers(row) for row in reversed(LONG_ROWS)], first[::-1])


class WhatFollowsTest(unittest.TestCase):
    """What 1.5 tells."""

    def test_lengths_come_to_the_number_of_throws(self):
        for row in ROWS + LONG_ROWS:
            for runs in (runs_of(row), ring_runs(row)):
                self.assertEqual(sum([run[2] for run in runs]), len(row), row)

    def test_a_row_from_behind_has_its_runs_from_behind(self):
        for row in ROWS + LONG_ROWS:
            turned = [(sign, len(row) - begin - length, length) for sign, begin, length in runs_of(row)]
            self.assertEqual(runs_of(row[::-1]), turned[::-1], row)

    def test_a_ring_turned_has_as_many_runs_as_long(self):
        for row in list(short_rows(6)) + LONG_ROWS:
            wanted = sorted([(sign, length) for sign, begin, length in ring_runs(row)])
            for at in range(len(row)):
                runs = ring_runs(row[at:] + row[:at])
                self.assertEqual(sorted([(sign, length) for sign, begin, length in runs]), wanted, row)

    def test_the_longest_of_a_ring_is_at_least_that_of_the_row(self):
        for row in ROWS + LONG_ROWS:
            for sign in (0, 1, 2):
                self.assertGreaterEqual(ring_longest(row, sign), longest(row, sign), row)


if __name__ == "__main__":
    unittest.main()
