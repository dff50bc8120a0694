"""Rows in order [9.1 to 9.5, with 0.2 to 0.5]."""

import itertools
import unittest

from tests.helper import (FORTY_FIGURES, NO_NUMBERS, NO_ROWS, asked_again, greatest, in_range_else_refused,
                          own_list, refused_at_each_place, refused_with, runs_by_the_words, short_rows)
from tests.reference import long_alike_upto
from throwruns.counts import alike_upto
from throwruns.errors import NoNumber, NoRow, TooGreat
from throwruns.orderly import (free_all, free_begun, free_many, free_next, free_nth, free_rank, next_signs)
from throwruns.rows import row_good

FEW = [(m, n) for m in (2, 3) for n in range(8 if m == 2 else 6)]
LENGTHS = list(range(1, 10)) + [19, 20]
MANY = [(m, n, k) for m in (2, 3) for n in (9, 13, 19, 20) for k in (2, 3, 4, 7, 19, 20)]
NO_SIGNS_NUMBER = NO_NUMBERS + [0, 1, 4, 5]
NO_THROWS_NUMBER = NO_NUMBERS + [21, 22, 40]
NO_LENGTH = NO_NUMBERS + [0, 21, 22, 40]


def free_by_the_words(m, n, k):
    """All free rows, in order, of few throws."""
    return [row for row in itertools.product(range(m), repeat=n)
            if all([run[2] < k for run in runs_by_the_words(row)])]


def grown_free(m, n, k):
    """All free rows, in order, throw by throw."""
    rows = [()]
    for throw in range(n):
        rows = [row + (sign,) for row in rows for sign in range(m)
                if k > 1 and (row + (sign,))[-k:] != (sign,) * k]
    return rows


def picked_numbers(many):
    """Some numbers from 0 to below many, the first and the last ones among them."""
    numbers = [0, 1, 2, many // 7, many // 3, many // 2, many - many // 5, many - 3, many - 2, many - 1]
    return sorted({number for number in numbers if 0 <= number < many})


class FewThrowsTest(unittest.TestCase):
    """Against all rows, one by one."""

    def test_free_rows(self):
        for m, n in FEW:
            for k in LENGTHS:
                rows = free_by_the_words(m, n, k)
                self.assertEqual(free_many(m, n, k), len(rows), (m, n, k))
                self.assertEqual(free_all(m, n, k), rows, (m, n, k))
                self.assertEqual([free_nth(m, n, k, number) for number in range(len(rows))], rows, (m, n, k))
                for number in (len(rows), len(rows) + 1, -1):
                    refused_with(self, NoNumber, free_nth, m, n, k, number)
                self.assertEqual([free_rank(m, k, row) for row in rows], list(range(len(rows))), (m, n, k))
                self.assertEqual([free_next(m, k, row) for row in rows], (rows + [None])[1:], (m, n, k))

    def test_rows_that_are_not_free(self):
        for m, n in FEW:
            for k in LENGTHS:
                rows = set(free_by_the_words(m, n, k))
                for row in itertools.product(range(m), repeat=n):
                    if row not in rows:
                        refused_with(self, NoRow, free_rank, m, k, row)
                        refused_with(self, NoRow, free_next, m, k, row)

    def test_begun_rows(self):
        for m, n in FEW:
            for k in LENGTHS[:6] + [20]:
                rows = free_by_the_words(m, n, k)
                for row in short_rows(min(n, 5), m):
                    begun = [free for free in rows if free[:len(row)] == row]
                    self.assertEqual(free_begun(m, n, k, row), len(begun), (m, n, k, row))
                    signs = sorted({free[len(row)] for free in begun if len(row) < n})
                    self.assertEqual(next_signs(m, n, k, row), signs, (m, n, k, row))


class ToldTest(unittest.TestCase):
    """Numbers and rows reckoned by hand, at the edges."""

    def test_no_throws(self):
        for m in (2, 3):
            for k in range(1, 21):
                self.assertEqual(free_many(m, 0, k), 1)
                self.assertEqual(free_all(m, 0, k), [()])
                self.assertEqual(free_nth(m, 0, k, 0), ())
                refused_with(self, NoNumber, free_nth, m, 0, k, 1)
                self.assertEqual(free_rank(m, k, ()), 0)
                self.assertIsNone(free_next(m, k, ()))
                self.assertEqual(free_begun(m, 0, k, ()), 1)
                self.assertEqual(next_signs(m, 0, k, ()), [])

    def test_length_1(self):
        for m in (2, 3):
            for n in range(1, 21):
                self.assertEqual(free_many(m, n, 1), 0)
                self.assertEqual(free_all(m, n, 1), [])
                self.assertEqual(free_begun(m, n, 1, ()), 0)
                self.assertEqual(free_begun(m, n, 1, (0,)), 0)
                self.assertEqual(next_signs(m, n, 1, ()), [])
                self.assertEqual(next_signs(m, n, 1, (1,)), [])
                refused_with(self, NoNumber, free_nth, m, n, 1, 0)
                refused_with(self, NoRow, free_rank, m, 1, (0, 1) * (n // 2) + (0,) * (n % 2))
                refused_with(self, NoRow, free_next, m, 1, (1,) * n)

    def test_one_throw(self):
        for k in range(2, 21):
            self.assertEqual(free_all(3, 1, k), [(0,), (1,), (2,)])
            self.assertEqual([free_next(2, k, (0,)), free_next(2, k, (1,))], [(1,), None])
            self.assertEqual(next_signs(3, 1, k, ()), [0, 1, 2])
            self.assertEqual(next_signs(3, 1, k, (1,)), [])
            self.assertEqual(free_begun(3, 1, k, ()), 3)
            self.assertEqual(free_begun(3, 1, k, (2,)), 1)

    def test_some_throws(self):
        self.assertEqual(free_all(2, 3, 2), [(0, 1, 0), (1, 0, 1)])
        self.assertEqual(free_all(2, 3, 3), [(0, 0, 1), (0, 1, 0), (0, 1, 1), (1, 0, 0), (1, 0, 1), (1, 1, 0)])
        self.assertEqual(free_nth(2, 3, 3, 4), (1, 0, 1))
        self.assertEqual(free_rank(2, 3, (1, 0, 1)), 4)
        self.assertEqual(free_next(2, 3, (0, 1, 1)), (1, 0, 0))
        self.assertEqual(free_next(3, 2, (0, 2, 1, 2)), (1, 0, 1, 0))
        self.assertEqual(free_begun(2, 4, 3, (0, 0)), 2)
        self.assertEqual(next_signs(2, 4, 3, (0, 0)), [1])
        self.assertEqual(next_signs(3, 4, 3, (1, 1)), [0, 2])
        self.assertEqual(next_signs(3, 4, 3, (0, 1)), [0, 1, 2])
        # A row may be begun with that is in no free row.
        self.assertEqual(free_begun(2, 4, 2, (0, 0)), 0)
        self.assertEqual(next_signs(2, 4, 2, (0, 0)), [])
        self.assertEqual(free_begun(2, 4, 2, (1, 1, 0, 1)), 0)

    def test_twenty_throws(self):
        self.assertEqual(free_many(2, 20, 2), 2)
        self.assertEqual(free_all(2, 20, 2), [(0, 1) * 10, (1, 0) * 10])
        self.assertEqual(free_next(2, 2, (0, 1) * 10), (1, 0) * 10)
        self.assertIsNone(free_next(2, 2, (1, 0) * 10))
        self.assertEqual(free_many(3, 20, 2), 3 * 2 ** 19)
        self.assertEqual(free_many(2, 20, 20), 2 ** 20 - 2)
        self.assertEqual(free_many(3, 20, 20), 3 ** 20 - 3)
        self.assertEqual(free_many(2, 20, 19), 2 ** 20 - 2 - 4)
        self.assertEqual(free_many(3, 19, 20), 3 ** 19)
        self.assertEqual(free_nth(3, 20, 20, 0), (0,) * 19 + (1,))
        self.assertEqual(free_nth(3, 20, 20, 3 ** 20 - 4), (2,) * 19 + (1,))
        self.assertEqual(free_rank(3, 20, (2,) * 19 + (1,)), 3 ** 20 - 4)
        self.assertEqual(free_next(3, 20, (0,) + (2,) * 19), (1,) + (0,) * 19)
        self.assertEqual(free_next(2, 20, (0,) * 18 + (1, 1)), (0,) * 17 + (1, 0, 0))
        self.assertIsNone(free_next(3, 20, (2,) * 19 + (1,)))
        self.assertEqual(free_begun(3, 20, 20, (0,) * 19), 2)
        self.assertEqual(next_signs(3, 20, 20, (0,) * 19), [1, 2])
        self.assertEqual(free_begun(3, 20, 20, (0,) * 20), 0)
        self.assertEqual(free_begun(3, 20, 20, (0,) * 19 + (2,)), 1)
        refused_with(self, NoNumber, free_nth, 3, 20, 20, 3 ** 20 - 3)
        refused_with(self, NoRow, free_rank, 3, 20, (1,) * 20)


class ManyThrowsTest(unittest.TestCase):
    """Reckoned in another way, up to the greatest numbers."""

    def test_how_many(self):
        for m in (2, 3):
            for n in range(21):
                for k in range(1, 21):
                    self.assertEqual(free_many(m, n, k), long_alike_upto((1,) * m, n, k - 1), (m, n, k))

    def test_numbers_and_rows(self):
        for m, n, k in MANY:
            many = free_many(m, n, k)
            numbers = picked_numbers(many)
            rows = [free_nth(m, n, k, number) for number in numbers]
            self.assertEqual(rows, sorted(set(rows)))
            for number, row in zip(numbers, rows):
                self.assertIs(row_good(row) and len(row) == n and max(row) < m, True)
                self.assertLess(greatest(runs_by_the_words(row), range(m)), k)
                self.assertEqual(free_rank(m, k, row), number, (m, n, k, row))
                behind = free_next(m, k, row)
                self.assertEqual(behind, None if number == many - 1 else free_nth(m, n, k, number + 1))
            for number in (many, many + 1, FORTY_FIGURES, -1):
                refused_with(self, NoNumber, free_nth, m, n, k, number)

    def test_against_rows_grown_in_order(self):
        for m, n, k in [(2, 12, 3), (2, 20, 3), (3, 9, 2), (3, 8, 3), (2, 10, 20), (2, 13, 5)]:
            rows = grown_free(m, n, k)
            self.assertEqual(free_many(m, n, k), len(rows))
            for number in range(0, len(rows), 97):
                self.assertEqual(free_nth(m, n, k, number), rows[number])
                self.assertEqual(free_rank(m, k, rows[number]), number)
            for row in rows[::501]:
                for many in range(n + 1):
                    begun = [free for free in rows if free[:many] == row[:many]]
                    self.assertEqual(free_begun(m, n, k, row[:many]), len(begun))
                    signs = sorted({free[many] for free in begun}) if many < n else []
                    self.assertEqual(next_signs(m, n, k, row[:many]), signs)

    def test_begun_rows_part_into_longer_ones(self):
        for m, n, k in MANY:
            self.assertEqual(free_begun(m, n, k, ()), free_many(m, n, k))
            for row in [(), (0,), (1, 0), (0, 1, 1), (1, 1, 0, 0), (1, 0) * 4, (0,) * 9]:
                longer = [free_begun(m, n, k, row + (sign,)) for sign in range(m)] if len(row) < n else [0]
                if len(row) < n:
                    self.assertEqual(free_begun(m, n, k, row), sum(longer), (m, n, k, row))
                    self.assertEqual(next_signs(m, n, k, row), [sign for sign in range(m) if longer[sign]])

    def test_from_row_to_row(self):
        for m, n, k in [(2, 9, 3), (3, 5, 2), (2, 7, 7)]:
            rows = [free_nth(m, n, k, 0)]
            while free_next(m, k, rows[-1]) is not None:
                rows.append(free_next(m, k, rows[-1]))
            self.assertEqual(rows, free_all(m, n, k))


class TooGreatTest(unittest.TestCase):

    def test_at_and_beside_the_border(self):
        # No numbers within 9.1 make just 500: the nearest are 496 and 506.
        met = set()
        for m in (2, 3):
            for n in range(21):
                for k in range(1, 21):
                    many = long_alike_upto((1,) * m, n, k - 1)
                    met.add(many)
                    if many <= 500:
                        rows = free_all(m, n, k)
                        self.assertEqual(len(rows), many, (m, n, k))
                        self.assertEqual(rows, grown_free(m, n, k))
                    else:
                        refusal = refused_with(self, TooGreat, free_all, m, n, k)
                        self.assertEqual((refusal.many, refusal.most), (many, 500), (m, n, k))
        self.assertEqual(sorted([many for many in met if 490 <= many <= 512]), [492, 496, 506, 510, 512])

    def test_numbers_go_ahead(self):
        for wrong in [(4, 20, 20), (3, 21, 20), (3, 20, 21), (3, 20, 0), (3, 20, None), (True, 20, 20), (3, True, 20),
                      (3, 20, True)]:
            refused_with(self, NoNumber, free_all, *wrong)


class RefusalsTest(unittest.TestCase):

    def test_each_place(self):
        for m in (2, 3):
            numbers = [(NoNumber, NO_SIGNS_NUMBER), (NoNumber, NO_THROWS_NUMBER), (NoNumber, NO_LENGTH)]
            for function in (free_many, free_all):
                refused_at_each_place(self, function, (m, 4, 3), numbers)
            many = free_many(m, 4, 3)
            refused_at_each_place(self, free_nth, (m, 4, 3, 1), numbers + [(NoNumber, NO_NUMBERS + [many, many + 1])])
            no_row = NO_ROWS + [(m,), (0, m), (0, 0, 0), (1, 0, 0, 0, 1), [0, 1]]
            for function in (free_rank, free_next):
                refused_at_each_place(self, function, (m, 3, (0, 1, 1)), [numbers[0], numbers[2], (NoRow, no_row)])
            no_row = NO_ROWS + [(m,), (0, m), (0, 1, 0, 1, 0), (0,) * 20, [0, 1]]
            for function in (free_begun, next_signs):
                refused_at_each_place(self, function, (m, 4, 3, (0, 1, 1)), numbers + [(NoRow, no_row)])

    def test_each_number_in_range(self):
        for function in (free_many, free_begun, next_signs):
            row = ((),) if function is not free_many else ()
            in_range_else_refused(self, function, (2, 3, 2) + row, 0, 2, 3)
            in_range_else_refused(self, function, (2, 3, 2) + row, 1, 0, 20)
            in_range_else_refused(self, function, (2, 3, 2) + row, 2, 1, 20)
        for function in (free_rank, free_next):
            in_range_else_refused(self, function, (2, 3, ()), 0, 2, 3)
            in_range_else_refused(self, function, (2, 3, ()), 1, 1, 20)
        in_range_else_refused(self, free_nth, (2, 3, 3, 0), 3, 0, 5)
        in_range_else_refused(self, free_nth, (2, 0, 3, 0), 2, 1, 20)
        in_range_else_refused(self, free_all, (2, 3, 2), 0, 2, 3)
        in_range_else_refused(self, free_all, (2, 3, 2), 1, 0, 20)
        in_range_else_refused(self, free_all, (2, 3, 2), 2, 1, 20)

    def test_rows_too_long(self):
        for n in range(20):
            for row in [(0, 1) * 10, ((0, 1) * 10)[:n + 1]]:
                for function in (free_begun, next_signs):
                    refused_with(self, NoRow, function, 2, n, 3, row)
            self.assertEqual(free_begun(2, n, 3, ((0, 1) * 10)[:n]), 1)
        for function in (free_rank, free_next):
            refused_with(self, NoRow, function, 2, 3, (0, 1) * 10 + (0,))

    def test_signs_of_others(self):
        for function in (free_rank, free_next):
            refused_with(self, NoRow, function, 2, 3, (0, 2))
            function(3, 3, (0, 2))
        for function in (free_begun, next_signs):
            refused_with(self, NoRow, function, 2, 3, 3, (2,))
            function(3, 3, 3, (2,))


class OwnAnswersTest(unittest.TestCase):

    def test_lists_are_the_asker_s_own(self):
        for m in (2, 3):
            for n in (0, 1, 4):
                for k in (1, 2, 20):
                    own_list(self, free_all, m, n, k)
                    own_list(self, next_signs, m, n, k, ())

    def test_same_answer_whatever_was_asked_in_between(self):
        questions = [(function, m, n, k) for function in (free_many, free_all) for m in (2, 3) for n in (0, 4)
                     for k in (1, 3, 20)]
        questions += [(free_nth, m, n, k, free_many(m, n, k) // 2) for m, n, k in MANY]
        questions += [(function, m, k, free_nth(m, n, k, 1)) for function in (free_rank, free_next) for m, n, k in MANY]
        questions += [(function, m, n, k, (1, 0)) for function in (free_begun, next_signs) for m, n, k in MANY]
        asked_again(self, questions, [(NoNumber, free_nth, 2, 4, 3, 10), (NoRow, free_rank, 2, 3, (0, 0, 0)),
                                      (TooGreat, free_all, 3, 20, 20), (NoRow, next_signs, 2, 1, 3, (0, 1))])


class WhatFollowsTest(unittest.TestCase):
    """What 9.5 tells over several functions together."""

    def test_the_row_of_the_number_of_a_row(self):
        for m, n, k in MANY:
            for number in picked_numbers(free_many(m, n, k)):
                row = free_nth(m, n, k, number)
                self.assertEqual(free_nth(m, n, k, free_rank(m, k, row)), row)

    def test_signs_exchanged(self):
        for m, n, k in MANY:
            for number in picked_numbers(free_many(m, n, k)):
                row = free_nth(m, n, k, number)
                for signs in itertools.permutations(range(m)):
                    exchanged = tuple([signs[sign] for sign in row])
                    self.assertIs(type(free_rank(m, k, exchanged)), int)
                    for many in (0, 1, 3, n):
                        self.assertEqual(free_begun(m, n, k, exchanged[:many]), free_begun(m, n, k, row[:many]))
        for m, n, k in [(2, 6, 3), (3, 4, 2)]:
            rows = free_all(m, n, k)
            for signs in itertools.permutations(range(m)):
                self.assertEqual(sorted([tuple([signs[sign] for sign in row]) for row in rows]), rows)

    def test_of_length_2(self):
        for m in (2, 3):
            for n in range(1, 21):
                self.assertEqual(free_many(m, n, 2), m * (m - 1) ** (n - 1))

    def test_as_many_as_counted(self):
        for m in (2, 3):
            for n in range(21):
                for k in range(1, 21):
                    self.assertEqual(free_many(m, n, k), alike_upto(m, n, k - 1))


if __name__ == "__main__":
    unittest.main()
