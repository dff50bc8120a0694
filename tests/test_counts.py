"""Counts by the longest run [2.1 to 2.5, with 0.2 to 0.5]."""

import math
import unittest

from tests.helper import (FORTY_FIGURES, NO_NUMBERS, in_range_else_refused, own_list,
                          refused_at_each_place, refused_with)
from tests.reference import (long_alike_upto, long_upto, rows_with_runs, upto, weights_by_longest)
from throwruns.counts import (alike_just, alike_table, alike_upto, rows_by_runs, rows_just,
                              rows_table, rows_upto, rows_with, runs_total)
from throwruns.errors import NoNumber, TooGreat
from throwruns.rows import longest, row_good

FEW = [(m, n) for m in (2, 3) for n in range(9 if m == 2 else 8)]
LENGTHS = list(range(13)) + [20, 39, 40]
OF_LENGTH = (rows_upto, rows_just, alike_upto, alike_just)
OF_TWO = (rows_table, alike_table, rows_by_runs)
NO_SIGNS_NUMBER = NO_NUMBERS + [0, 1, 4, 5]
NO_THROWS_NUMBER = NO_NUMBERS + [41, 42, 100]


class FewThrowsTest(unittest.TestCase):
    """Against all rows, one by one."""

    def test_runs_of_the_sign_0(self):
        for m, n in FEW:
            table = weights_by_longest((1,) * m, n, (0,))
            self.assertEqual(rows_table(m, n), table, (m, n))
            for k in LENGTHS:
                self.assertEqual(rows_upto(m, n, k), upto(table, k), (m, n, k))
                self.assertEqual(rows_just(m, n, k), table[k] if k <= n else 0, (m, n, k))

    def test_as_many_of_each_other_sign(self):
        for m, n in FEW:
            for sign in range(m):
                self.assertEqual(rows_table(m, n), weights_by_longest((1,) * m, n, (sign,)), (m, n, sign))

    def test_runs_of_any_sign(self):
        for m, n in FEW:
            table = weights_by_longest((1,) * m, n, (0, 1, 2))
            self.assertEqual(alike_table(m, n), table, (m, n))
            for k in LENGTHS:
                self.assertEqual(alike_upto(m, n, k), upto(table, k), (m, n, k))
                self.assertEqual(alike_just(m, n, k), table[k] if k <= n else 0, (m, n, k))

    def test_by_how_many_runs(self):
        for m, n in FEW:
            many = [0] * (n + 1)
            for row, runs, ring_runs in rows_with_runs(m, n):
                many[len(runs)] += 1
            self.assertEqual(rows_by_runs(m, n), many, (m, n))

    def test_all_runs_together(self):
        for m, n in FEW:
            for k in LENGTHS[1:]:
                many = 0
                for row, runs, ring_runs in rows_with_runs(m, n):
                    many += len([run for run in runs if run[0] == 0 and run[2] >= k])
                self.assertEqual(runs_total(m, n, k), many, (m, n, k))

    def test_rows_with(self):
        for m, n in FEW:
            for sign in range(m):
                for k in LENGTHS:
                    wanted = [row for row, runs, ring_runs in rows_with_runs(m, n) if longest(row, sign) == k]
                    if len(wanted) <= 500:
                        self.assertEqual(rows_with(m, sign, n, k), wanted, (m, sign, n, k))


class ToldTest(unittest.TestCase):
    """Numbers reckoned by hand, at the edges."""

    def test_no_throws(self):
        for m in (2, 3):
            for k in (0, 1, 40):
                self.assertEqual(rows_upto(m, 0, k), 1)
                self.assertEqual(alike_upto(m, 0, k), 1)
            for function in (rows_just, alike_just):
                self.assertEqual([function(m, 0, k) for k in (0, 1, 2, 40)], [1, 0, 0, 0])
            for function in OF_TWO:
                self.assertEqual(function(m, 0), [1])
            for k in (1, 2, 40):
                self.assertEqual(runs_total(m, 0, k), 0)
            for sign in range(m):
                self.assertEqual(rows_with(m, sign, 0, 0), [()])
                for k in (1, 2, 40):
                    self.assertEqual(rows_with(m, sign, 0, k), [])

    def test_one_throw(self):
        self.assertEqual([rows_upto(2, 1, k) for k in (0, 1, 2, 40)], [1, 2, 2, 2])
        self.assertEqual([rows_upto(3, 1, k) for k in (0, 1, 2, 40)], [2, 3, 3, 3])
        self.assertEqual([alike_upto(3, 1, k) for k in (0, 1, 2, 40)], [0, 3, 3, 3])
        self.assertEqual([alike_just(2, 1, k) for k in (0, 1, 2, 40)], [0, 2, 0, 0])
        self.assertEqual(rows_table(3, 1), [2, 1])
        self.assertEqual(alike_table(3, 1), [0, 3])
        self.assertEqual(rows_by_runs(3, 1), [0, 3])
        self.assertEqual([runs_total(3, 1, k) for k in (1, 2, 40)], [1, 0, 0])
        self.assertEqual([rows_with(3, 1, 1, k) for k in (0, 1, 2, 40)], [[(0,), (2,)], [(1,)], [], []])

    def test_some_throws(self):
        self.assertEqual(rows_table(2, 4), [1, 7, 5, 2, 1])
        self.assertEqual(alike_table(2, 4), [0, 2, 8, 4, 2])
        self.assertEqual(rows_by_runs(2, 4), [0, 2, 6, 6, 2])
        self.assertEqual([runs_total(2, 4, k) for k in (1, 2, 3, 4, 5)], [20, 8, 3, 1, 0])
        self.assertEqual(rows_with(2, 0, 3, 1), [(0, 1, 0), (0, 1, 1), (1, 0, 1), (1, 1, 0)])
        self.assertEqual(rows_with(2, 1, 3, 2), [(0, 1, 1), (1, 1, 0)])

    def test_rows_of_fixed_form(self):
        for m in (2, 3):
            for n in (0, 1, 2, 20, 39, 40):
                self.assertEqual(rows_upto(m, n, 0), (m - 1) ** n)
                self.assertEqual(rows_upto(m, n, 40), m ** n)
                self.assertEqual(rows_just(m, n, n), 1)
                self.assertEqual(rows_upto(m, n, n), m ** n)
                self.assertEqual(alike_upto(m, n, n), m ** n)
                if n > 0:
                    self.assertEqual(rows_upto(m, n, n - 1), m ** n - 1)
                    self.assertEqual(alike_just(m, n, n), m)
                    self.assertEqual(alike_upto(m, n, 0), 0)
                    self.assertEqual(alike_upto(m, n, 1), m * (m - 1) ** (n - 1))
                    self.assertEqual(runs_total(m, n, n), 1)

    def test_forty_throws(self):
        # Rows of two signs with no two 0 side by side: 1, 2, 3, 5, 8 and so on.
        one, other = 1, 2
        for throw in range(40):
            one, other = other, one + other
        self.assertEqual(rows_upto(2, 40, 1), one)
        self.assertEqual(one, 267914296)
        self.assertEqual(runs_total(2, 40, 1), 41 * 2 ** 38)
        self.assertEqual(rows_by_runs(2, 40), [0] + [2 * math.comb(39, j) for j in range(40)])


class ManyThrowsTest(unittest.TestCase):
    """Reckoned in another way, up to the greatest numbers."""

    def test_runs_of_the_sign_0(self):
        for m in (2, 3):
            for n in range(41):
                table = rows_table(m, n)
                for k in range(41):
                    wanted = long_upto(1, m - 1, n, k)
                    less = long_upto(1, m - 1, n, k - 1) if k > 0 else 0
                    self.assertEqual(rows_upto(m, n, k), wanted, (m, n, k))
                    self.assertEqual(rows_just(m, n, k), wanted - less, (m, n, k))
                    if k <= n:
                        self.assertEqual(table[k], wanted - less, (m, n, k))

    def test_runs_of_any_sign(self):
        for m in (2, 3):
            for n in (8, 9, 13, 20, 21, 39, 40):
                table = alike_table(m, n)
                self.assertEqual(len(table), n + 1)
                less = 0
                for k in range(41):
                    wanted = long_alike_upto((1,) * m, n, k)
                    self.assertEqual(alike_upto(m, n, k), wanted, (m, n, k))
                    self.assertEqual(alike_just(m, n, k), wanted - less, (m, n, k))
                    if k <= n:
                        self.assertEqual(table[k], wanted - less, (m, n, k))
                    less = wanted

    def test_all_runs_together(self):
        for m in (2, 3):
            for n in range(41):
                for k in range(1, 41):
                    # Each place at which such a run may begin, with what may stand on both sides.
                    wanted = sum([m ** (n - k) if begin == 0 else (m - 1) * m ** (n - k - 1)
                                  for begin in range(n - k + 1)])
                    self.assertEqual(runs_total(m, n, k), wanted, (m, n, k))

    def test_kinds_of_what_is_told(self):
        for n in (0, 1, 5, 40):
            for k in (0, 1, 7, 40):
                for function in OF_LENGTH:
                    self.assertIs(type(function(2, n, k)), int)
                self.assertIs(type(runs_total(3, n, k + 1 if k < 40 else k)), int)
            for function in OF_TWO:
                told = function(3, n)
                self.assertIs(type(told), list)
                self.assertEqual([type(number) for number in told], [int] * (n + 1))


class RowsWithTest(unittest.TestCase):

    def test_all_that_are_told(self):
        """As many different rows as there are, each with a longest run of k, are all of them."""
        for m in (2, 3):
            for n in range(21):
                for k in list(range(n + 2)) + [40]:
                    many = long_upto(1, m - 1, n, k) - (long_upto(1, m - 1, n, k - 1) if k > 0 else 0)
                    for sign in range(m):
                        if many > 500:
                            refusal = refused_with(self, TooGreat, rows_with, m, sign, n, k)
                            self.assertEqual((refusal.many, refusal.most), (many, 500))
                        else:
                            self.check(rows_with(m, sign, n, k), m, sign, n, k, many)

    def check(self, told, m, sign, n, k, many):
        case = (m, sign, n, k)
        self.assertEqual(len(told), many, case)
        self.assertEqual(told, sorted(set(told)), case)
        for row in told:
            self.assertIs(row_good(row), True, case)
            self.assertEqual(len(row), n, case)
            self.assertTrue(all([0 <= thrown < m for thrown in row]), case)
            self.assertEqual(longest(row, sign), k, case)

    def test_beside_the_border(self):
        # The greatest number that is told, and the smallest that is refused.
        counts = [rows_just(m, n, k) for m in (2, 3) for n in range(21) for k in range(n + 1)]
        most = max([many for many in counts if many <= 500])
        least = min([many for many in counts if many > 500])
        for m in (2, 3):
            for n in range(21):
                for k in range(n + 1):
                    if rows_just(m, n, k) == most:
                        self.assertEqual(len(rows_with(m, 0, n, k)), most)
                    if rows_just(m, n, k) == least:
                        refusal = refused_with(self, TooGreat, rows_with, m, 1, n, k)
                        self.assertEqual((refusal.many, refusal.most), (least, 500))

    def test_told_and_refused(self):
        self.assertEqual(len(rows_with(3, 2, 8, 0)), 256)
        refusal = refused_with(self, TooGreat, rows_with, 3, 2, 9, 0)
        self.assertEqual((refusal.many, refusal.most), (512, 500))
        refusal = refused_with(self, TooGreat, rows_with, 3, 0, 20, 0)
        self.assertEqual((refusal.many, refusal.most), (2 ** 20, 500))
        refusal = refused_with(self, TooGreat, rows_with, 2, 1, 20, 3)
        self.assertEqual((refusal.many, refusal.most), (rows_just(2, 20, 3), 500))

    def test_twenty_throws(self):
        self.assertEqual(rows_with(2, 0, 20, 0), [(1,) * 20])
        self.assertEqual(rows_with(3, 1, 20, 20), [(1,) * 20])
        self.assertEqual(rows_with(2, 1, 20, 21), [])
        self.assertEqual(rows_with(2, 1, 20, 40), [])
        self.assertEqual(rows_with(3, 2, 20, 19),
                         [(0,) + (2,) * 19, (1,) + (2,) * 19, (2,) * 19 + (0,), (2,) * 19 + (1,)])


class RefusalsTest(unittest.TestCase):

    def test_each_place(self):
        wrong = [(NoNumber, NO_SIGNS_NUMBER), (NoNumber, NO_THROWS_NUMBER), (NoNumber, NO_THROWS_NUMBER)]
        for function in OF_LENGTH:
            refused_at_each_place(self, function, (2, 3, 1), wrong)
            refused_at_each_place(self, function, (3, 40, 40), wrong)
        for function in OF_TWO:
            refused_at_each_place(self, function, (3, 3), wrong[:2])
        wrong[2] = (NoNumber, NO_THROWS_NUMBER + [0])
        refused_at_each_place(self, runs_total, (2, 3, 1), wrong)

    def test_rows_with(self):
        for m in (2, 3):
            wrong = [(NoNumber, NO_SIGNS_NUMBER), (NoNumber, NO_NUMBERS + [m, m + 1, 9]),
                     (NoNumber, NO_NUMBERS + [21, 22, 40]), (NoNumber, NO_THROWS_NUMBER)]
            refused_at_each_place(self, rows_with, (m, 1, 4, 2), wrong)

    def test_numbers_go_ahead_of_too_great(self):
        for wrong in [(3, 0, 20, 41), (3, 3, 20, 0), (4, 0, 20, 0), (3, 0, 21, 0), (3, 0, 20, None),
                      (3, True, 20, 0), (3, 0, 20, False), (3, 0, FORTY_FIGURES, 0)]:
            refused_with(self, NoNumber, rows_with, *wrong)

    def test_each_number_in_range(self):
        for function in OF_LENGTH:
            in_range_else_refused(self, function, (2, 3, 1), 0, 2, 3)
            in_range_else_refused(self, function, (2, 3, 1), 1, 0, 40)
            in_range_else_refused(self, function, (2, 3, 1), 2, 0, 40)
        for function in OF_TWO:
            in_range_else_refused(self, function, (2, 3), 0, 2, 3)
            in_range_else_refused(self, function, (2, 3), 1, 0, 40)
        in_range_else_refused(self, runs_total, (2, 3, 1), 0, 2, 3)
        in_range_else_refused(self, runs_total, (2, 3, 1), 1, 0, 40)
        in_range_else_refused(self, runs_total, (2, 3, 1), 2, 1, 40)
        in_range_else_refused(self, rows_with, (2, 1, 3, 1), 0, 2, 3)
        in_range_else_refused(self, rows_with, (2, 1, 3, 1), 1, 0, 1)
        in_range_else_refused(self, rows_with, (3, 1, 3, 1), 1, 0, 2)
        in_range_else_refused(self, rows_with, (2, 1, 3, 0), 2, 0, 20)
        in_range_else_refused(self, rows_with, (2, 1, 3, 1), 3, 0, 40)


class OwnAnswersTest(unittest.TestCase):

    def test_lists_are_the_asker_s_own(self):
        for m in (2, 3):
            for n in (0, 1, 2, 5):
                for function in OF_TWO:
                    own_list(self, function, m, n)
                for k in (0, 1, n, n + 1):
                    own_list(self, rows_with, m, 1, n, k)

    def test_same_answer_whatever_was_asked_in_between(self):
        questions = [(function, m, n, k) for function in OF_LENGTH for m in (2, 3) for n in (0, 3, 40)
                     for k in (0, 2, 40)]
        questions += [(function, m, n) for function in OF_TWO for m in (2, 3) for n in (0, 1, 40)]
        questions += [(rows_with, 3, 0, 4, 2), (rows_with, 2, 1, 20, 19), (runs_total, 2, 40, 3)]
        first = [question[0](*question[1:]) for question in questions]
        refused_with(self, TooGreat, rows_with, 3, 0, 20, 1)
        refused_with(self, NoNumber, rows_upto, 2, 41, 0)
        again = [question[0](*question[1:]) for question in reversed(questions)]
        self.assertEqual(again[::-1], first)


class WhatFollowsTest(unittest.TestCase):
    """What 2.5 tells."""

    def test_a_table_comes_to_all_rows(self):
        for m in (2, 3):
            for n in range(41):
                for function in OF_TWO:
                    self.assertEqual(sum(function(m, n)), m ** n, (function.__name__, m, n))

    def test_two_signs(self):
        for n in range(1, 41):
            for k in range(1, 41):
                self.assertEqual(alike_upto(2, n, k), 2 * rows_upto(2, n - 1, k - 1), (n, k))

    def test_how_many_have_j_runs(self):
        for m in (2, 3):
            for n in range(1, 41):
                wanted = [m * (m - 1) ** (j - 1) * math.comb(n - 1, j - 1) for j in range(1, n + 1)]
                self.assertEqual(rows_by_runs(m, n), [0] + wanted, (m, n))


if __name__ == "__main__":
    unittest.main()
