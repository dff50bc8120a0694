"""Rows on rings [4.1 to 4.5, with 0.2 to 0.5]."""

import copy
import unittest

from tests.helper import (FORTY_FIGURES, NO_DICE, NO_NUMBERS, NO_ROWS, in_range_else_refused,
                          own_list, refused_at_each_place, refused_with, short_rows)
from tests.reference import (as_share, die_shares, kinds_by_the_words, long_ring_upto, upto,
                             weights_by_longest)
from throwruns.counts import rows_upto
from throwruns.errors import NoDie, NoNumber, NoRow, TooGreat
from throwruns.rings import (kinds_list, kinds_many, least_turn, ring_just, ring_share, ring_table,
                             ring_upto, turn_to)
from throwruns.rows import ring_runs, row_good
from throwruns.shares import share_good

FEW = [(m, n) for m in (2, 3) for n in range(9 if m == 2 else 8)]
LENGTHS = list(range(11)) + [20, 29, 30]
DICE = [(1, 1), (1, 2), (9, 1), (4, 6), (1, 1, 1), (1, 2, 3), (9, 9, 9), (6, 3, 3)]
ROWS = list(short_rows(6)) + [
    (0,) * 20, (1, 0) * 10, (2,) * 19 + (1,), (2, 1, 0, 2, 1) * 4, (0, 0, 1, 0) * 5,
    (1, 2, 0, 0, 1, 0, 0, 2, 2, 1, 0, 0, 1, 2, 0, 1, 1, 0, 2, 0)]
NO_SIGNS_NUMBER = NO_NUMBERS + [0, 1, 4, 5]
NO_THROWS_NUMBER = NO_NUMBERS + [31, 32, 100]


def turned(row, t):
    """A row turned by t throws."""
    return row[t:] + row[:t]


class FewThrowsTest(unittest.TestCase):
    """Against all rows, one by one."""

    def test_counts(self):
        for m, n in FEW:
            table = weights_by_longest((1,) * m, n, (0,), ring=True)
            self.assertEqual(ring_table(m, n), table, (m, n))
            for k in LENGTHS:
                self.assertEqual(ring_upto(m, n, k), upto(table, k), (m, n, k))
                self.assertEqual(ring_just(m, n, k), table[k] if k <= n else 0, (m, n, k))

    def test_shares(self):
        for die in DICE:
            for n in range(8 if len(die) == 2 else 6):
                for sign in range(len(die)):
                    table = weights_by_longest(die_shares(die), n, (sign,), ring=True)
                    for k in LENGTHS:
                        wanted = as_share(upto(table, k))
                        self.assertEqual(ring_share(die, sign, n, k), wanted, (die, sign, n, k))


class ToldTest(unittest.TestCase):
    """Numbers reckoned by hand, at the edges."""

    def test_no_throws(self):
        for m in (2, 3):
            self.assertEqual([ring_upto(m, 0, k) for k in (0, 1, 30)], [1, 1, 1])
            self.assertEqual([ring_just(m, 0, k) for k in (0, 1, 30)], [1, 0, 0])
            self.assertEqual(ring_table(m, 0), [1])
        for die in DICE:
            self.assertEqual([ring_share(die, 0, 0, k) for k in (0, 1, 30)], [(1, 1)] * 3)

    def test_one_throw(self):
        self.assertEqual([ring_upto(3, 1, k) for k in (0, 1, 30)], [2, 3, 3])
        self.assertEqual([ring_just(3, 1, k) for k in (0, 1, 2, 30)], [2, 1, 0, 0])
        self.assertEqual(ring_table(2, 1), [1, 1])
        self.assertEqual([ring_share((1, 2, 3), 1, 1, k) for k in (0, 1, 30)], [(2, 3), (1, 1), (1, 1)])

    def test_some_throws(self):
        self.assertEqual(ring_table(2, 3), [1, 3, 3, 1])
        self.assertEqual(ring_table(2, 4), [1, 6, 4, 4, 1])
        self.assertEqual(ring_table(3, 2), [4, 4, 1])
        self.assertEqual(ring_share((1, 2), 0, 2, 1), (8, 9))
        self.assertEqual(ring_share((1, 2), 1, 3, 1), (7, 27))
        self.assertEqual(ring_share((2, 4), 1, 3, 2), (19, 27))

    def test_thirty_throws(self):
        # Rings of two signs with no two 0 side by side: 1, 3, 4, 7, 11 and so on.
        one, other = 1, 3
        for throw in range(29):
            one, other = other, one + other
        self.assertEqual(ring_upto(2, 30, 1), one)
        self.assertEqual(one, 1860498)
        for m in (2, 3):
            self.assertEqual(ring_upto(m, 30, 0), (m - 1) ** 30)
            self.assertEqual(ring_upto(m, 30, 29), m ** 30 - 1)
            self.assertEqual(ring_upto(m, 30, 30), m ** 30)
            self.assertEqual(ring_just(m, 30, 30), 1)
            self.assertEqual(ring_just(m, 30, 29), 30 * (m - 1))
        self.assertEqual(ring_share((9, 1), 0, 30, 0), (1, 10 ** 30))
        self.assertEqual(ring_share((9, 1), 0, 30, 29), (10 ** 30 - 9 ** 30, 10 ** 30))
        self.assertEqual(ring_share((9, 1), 0, 30, 30), (1, 1))


class ManyThrowsTest(unittest.TestCase):
    """Reckoned in another way, up to the greatest numbers."""

    def test_counts(self):
        for m in (2, 3):
            for n in (0, 1, 2, 3, 8, 9, 10, 17, 29, 30):
                table = ring_table(m, n)
                self.assertEqual(len(table), n + 1)
                less = 0
                for k in range(31):
                    wanted = long_ring_upto(1, m - 1, n, k)
                    self.assertEqual(ring_upto(m, n, k), wanted, (m, n, k))
                    self.assertEqual(ring_just(m, n, k), wanted - less, (m, n, k))
                    if k <= n:
                        self.assertEqual(table[k], wanted - less, (m, n, k))
                    less = wanted

    def test_shares(self):
        for die in [(1, 1), (9, 1), (1, 2, 3)]:
            shares = die_shares(die)
            for sign in range(len(die)):
                for n in (9, 16, 30):
                    for k in (0, 1, 2, 7, 8, 15, 16, 29, 30):
                        wanted = as_share(long_ring_upto(shares[sign], 1 - shares[sign], n, k))
                        self.assertEqual(ring_share(die, sign, n, k), wanted, (die, sign, n, k))

    def test_kinds_of_what_is_told(self):
        for n in (0, 1, 7, 30):
            self.assertEqual([type(number) for number in ring_table(3, n)], [int] * (n + 1))
            for k in (0, 1, 30):
                self.assertIs(type(ring_upto(2, n, k)), int)
                self.assertIs(type(ring_just(2, n, k)), int)
                for die in DICE:
                    self.assertIs(share_good(ring_share(die, 1, n, k)), True)


class TurnsTest(unittest.TestCase):

    def test_told_turns(self):
        self.assertEqual(least_turn(()), ())
        self.assertEqual(least_turn((2,)), (2,))
        self.assertEqual(least_turn((1, 0)), (0, 1))
        self.assertEqual(least_turn((2, 0, 1, 0, 0)), (0, 0, 2, 0, 1))
        self.assertEqual(least_turn((1,) * 20), (1,) * 20)
        self.assertEqual(least_turn((2,) + (0,) * 19), (0,) * 19 + (2,))
        self.assertEqual(turn_to((), ()), 0)
        self.assertEqual(turn_to((1,), (1,)), 0)
        self.assertEqual(turn_to((0, 1, 2), (0, 1, 2)), 0)
        self.assertEqual(turn_to((0, 1, 2), (1, 2, 0)), 1)
        self.assertEqual(turn_to((0, 1, 2), (2, 0, 1)), 2)
        self.assertEqual(turn_to((0, 1) * 10, (1, 0) * 10), 1)
        self.assertEqual(turn_to((2,) + (0,) * 19, (0,) * 19 + (2,)), 1)
        self.assertEqual(turn_to((0,) * 19 + (2,), (2,) + (0,) * 19), 19)

    def test_no_turn(self):
        for one, other in [((), (0,)), ((0,), ()), ((0,), (1,)), ((0, 1, 2), (0, 2, 1)), ((0, 1), (0, 1, 0, 1)),
                           ((0, 1, 0, 1), (0, 1)), ((0,) * 20, (0,) * 19), ((0, 0, 1), (0, 1, 1))]:
            self.assertIsNone(turn_to(one, other), (one, other))

    def test_least_of_all_turns(self):
        for row in ROWS:
            told = least_turn(row)
            self.assertEqual(told, min([turned(row, t) for t in range(len(row) + 1)]), row)
            self.assertIs(row_good(told), True)
            self.assertEqual(least_turn(told), told)

    def test_least_number_of_throws(self):
        rows = list(short_rows(4))
        for row in rows:
            for other in rows:
                wanted = None
                for t in range(len(row), -1, -1):
                    if turned(row, t) == other:
                        wanted = t
                told = turn_to(row, other)
                self.assertEqual(told, wanted, (row, other))
                self.assertIs(type(told), type(wanted))


class KindsTest(unittest.TestCase):

    def test_all_kinds(self):
        for m in (2, 3):
            for n in range(1, 13):
                kinds = kinds_by_the_words(m, n)
                for k in list(range(n + 2)) + [29, 30]:
                    wanted = [row for row, length in kinds if length <= k]
                    self.assertEqual(kinds_many(m, n, k), len(wanted), (m, n, k))
                    if len(wanted) <= 300:
                        self.assertEqual(kinds_list(m, n, k), wanted, (m, n, k))
                    else:
                        refusal = refused_with(self, TooGreat, kinds_list, m, n, k)
                        self.assertEqual((refusal.many, refusal.most), (len(wanted), 300))

    def test_told_kinds(self):
        self.assertEqual([kinds_many(2, 1, k) for k in (0, 1, 30)], [1, 2, 2])
        self.assertEqual(kinds_list(2, 1, 0), [(1,)])
        self.assertEqual(kinds_list(3, 1, 0), [(1,), (2,)])
        self.assertEqual(kinds_list(3, 1, 1), [(0,), (1,), (2,)])
        self.assertEqual(kinds_list(2, 4, 0), [(1, 1, 1, 1)])
        self.assertEqual(kinds_list(2, 4, 1), [(0, 1, 0, 1), (0, 1, 1, 1), (1, 1, 1, 1)])
        self.assertEqual(kinds_list(2, 4, 3), [(0, 0, 0, 1), (0, 0, 1, 1), (0, 1, 0, 1), (0, 1, 1, 1),
                                               (1, 1, 1, 1)])
        self.assertEqual(kinds_list(2, 4, 4), [(0, 0, 0, 0)] + kinds_list(2, 4, 3))
        self.assertEqual(kinds_list(2, 4, 30), kinds_list(2, 4, 4))
        self.assertEqual(kinds_many(2, 12, 12), 352)
        self.assertEqual(kinds_many(3, 12, 12), 44368)
        self.assertEqual(kinds_many(3, 12, 11), 44367)

    def test_beside_the_border(self):
        self.assertEqual(len(kinds_list(3, 7, 3)), 296)
        self.assertEqual(len(kinds_list(2, 12, 4)), 287)
        for m, n, k, many in [(3, 7, 4, 308), (2, 12, 5, 319), (3, 12, 0, 352), (3, 12, 30, 44368)]:
            refusal = refused_with(self, TooGreat, kinds_list, m, n, k)
            self.assertEqual((refusal.many, refusal.most), (many, 300))

    def test_kinds_of_what_is_told(self):
        for m, n, k in [(2, 1, 0), (3, 5, 2), (2, 12, 1)]:
            self.assertIs(type(kinds_many(m, n, k)), int)
            for row in kinds_list(m, n, k):
                self.assertIs(row_good(row), True)
                self.assertEqual(least_turn(row), row)


class RefusalsTest(unittest.TestCase):

    def test_each_place(self):
        wrong = [(NoNumber, NO_SIGNS_NUMBER), (NoNumber, NO_THROWS_NUMBER), (NoNumber, NO_THROWS_NUMBER)]
        for function in (ring_upto, ring_just):
            refused_at_each_place(self, function, (2, 3, 1), wrong)
            refused_at_each_place(self, function, (3, 30, 30), wrong)
        refused_at_each_place(self, ring_table, (3, 4), wrong[:2])
        wrong[1] = (NoNumber, NO_NUMBERS + [0, 13, 14, 20, 30])
        for function in (kinds_many, kinds_list):
            refused_at_each_place(self, function, (2, 3, 1), wrong)
            refused_at_each_place(self, function, (3, 5, 30), wrong)

    def test_shares(self):
        for die in [(1, 2), (1, 2, 3)]:
            wrong = [(NoDie, NO_DICE), (NoNumber, NO_NUMBERS + [len(die), len(die) + 1]),
                     (NoNumber, NO_THROWS_NUMBER), (NoNumber, NO_THROWS_NUMBER)]
            refused_at_each_place(self, ring_share, (die, 1, 3, 2), wrong)
        for die in NO_DICE:
            refused_with(self, NoDie, ring_share, die, None, 31, [])

    def test_rows(self):
        for thing in NO_ROWS:
            with self.subTest(thing=thing):
                kept = copy.deepcopy(thing)
                refused_with(self, NoRow, least_turn, thing)
                for row in [(), (0,), (0, 1, 2), (1,) * 20]:
                    refused_with(self, NoRow, turn_to, thing, row)
                    refused_with(self, NoRow, turn_to, row, thing)
                refused_with(self, NoRow, turn_to, thing, thing)
                self.assertEqual(thing, kept)

    def test_each_number_in_range(self):
        for function in (ring_upto, ring_just):
            in_range_else_refused(self, function, (2, 3, 1), 0, 2, 3)
            in_range_else_refused(self, function, (2, 3, 1), 1, 0, 30)
            in_range_else_refused(self, function, (2, 3, 1), 2, 0, 30)
        in_range_else_refused(self, ring_table, (2, 3), 0, 2, 3)
        in_range_else_refused(self, ring_table, (2, 3), 1, 0, 30)
        for die in [(1, 2), (1, 2, 3)]:
            in_range_else_refused(self, ring_share, (die, 1, 3, 2), 1, 0, len(die) - 1)
            in_range_else_refused(self, ring_share, (die, 1, 3, 2), 2, 0, 30)
            in_range_else_refused(self, ring_share, (die, 1, 3, 2), 3, 0, 30)
        for function in (kinds_many, kinds_list):
            in_range_else_refused(self, function, (2, 3, 1), 0, 2, 3)
            in_range_else_refused(self, function, (2, 3, 1), 1, 1, 12)
            in_range_else_refused(self, function, (2, 3, 1), 2, 0, 30)

    def test_numbers_go_ahead_of_too_great(self):
        for wrong in [(3, 12, 31), (4, 12, 12), (3, 13, 12), (3, 12, None), (3, 12, True), (True, 12, 12),
                      (3, FORTY_FIGURES, 12), (3, 12, FORTY_FIGURES)]:
            refused_with(self, NoNumber, kinds_list, *wrong)


class OwnAnswersTest(unittest.TestCase):

    def test_lists_are_the_asker_s_own(self):
        for m in (2, 3):
            for n in (0, 1, 5):
                own_list(self, ring_table, m, n)
            for n in (1, 5):
                for k in (0, 1, 30):
                    own_list(self, kinds_list, m, n, k)

    def test_same_answer_whatever_was_asked_in_between(self):
        questions = [(function, m, n, k) for function in (ring_upto, ring_just) for m in (2, 3)
                     for n in (0, 5, 30) for k in (0, 2, 30)]
        questions += [(kinds_many, m, n, k) for m in (2, 3) for n in (1, 12) for k in (0, 2, 30)]
        questions += [(ring_table, 2, 0), (ring_table, 3, 30), (kinds_list, 2, 12, 2), (kinds_list, 3, 5, 5)]
        questions += [(ring_share, die, 1, 30, 3) for die in DICE] + [(least_turn, row) for row in ROWS[-6:]]
        questions += [(turn_to, row, least_turn(row)) for row in ROWS[-6:]]
        first = [question[0](*question[1:]) for question in questions]
        refused_with(self, TooGreat, kinds_list, 3, 12, 30)
        refused_with(self, NoRow, least_turn, [0, 1])
        again = [question[0](*question[1:]) for question in reversed(questions)]
        self.assertEqual(again[::-1], first)


class WhatFollowsTest(unittest.TestCase):
    """What 4.5 tells."""

    def test_a_ring_table_comes_to_all_rows(self):
        for m in (2, 3):
            for n in range(31):
                self.assertEqual(sum(ring_table(m, n)), m ** n, (m, n))

    def test_no_more_rows_than_with_runs(self):
        for m in (2, 3):
            for n in range(31):
                for k in range(31):
                    self.assertLessEqual(ring_upto(m, n, k), rows_upto(m, n, k), (m, n, k))

    def test_a_row_turned_has_the_same_least_turn(self):
        for row in ROWS:
            for t in range(len(row) + 2):
                self.assertEqual(least_turn(turned(row, t)), least_turn(row), (row, t))

    def test_a_row_turned_has_its_ring_runs_turned(self):
        for row in ROWS:
            for other in {turned(row, t) for t in range(len(row))}:
                t = turn_to(row, other)
                self.assertEqual(turned(row, t), other)
                if len(set(row)) > 1:
                    runs = [(sign, (begin - t) % len(row), length) for sign, begin, length in ring_runs(row)]
                    self.assertEqual(sorted(runs, key=lambda run: run[1]), ring_runs(other), (row, t))
                else:
                    self.assertEqual(ring_runs(row), ring_runs(other))


if __name__ == "__main__":
    unittest.main()
