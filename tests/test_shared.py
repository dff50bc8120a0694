"""Shares by the longest run [3.1 to 3.5, with 0.2 to 0.5]."""

from fractions import Fraction
import unittest

from tests.helper import (NO_DICE, NO_NUMBERS, in_range_else_refused, own_list,
                          refused_at_each_place, refused_with)
from tests.reference import (as_fraction, as_share, die_shares, long_alike_upto, long_upto,
                             rows_with_runs, upto, weight_of, weights_by_longest)
from throwruns.counts import rows_upto
from throwruns.errors import NoDie, NoNumber
from throwruns.shared import (any_upto, mean_longest, mean_runs, share_just, share_table,
                              share_upto)
from throwruns.shares import share_good, share_sum

DICE = [(1, 1), (1, 2), (9, 1), (4, 6), (1, 1, 1), (1, 2, 3), (9, 9, 9), (6, 3, 3), (1, 9, 8)]
FEW = [(die, n) for die in DICE for n in range(8 if len(die) == 2 else 6)]
LENGTHS = list(range(10)) + [20, 40]
NO_THROWS_NUMBER = NO_NUMBERS + [41, 42, 100]


class FewThrowsTest(unittest.TestCase):
    """Against all rows, one by one."""

    def test_runs_of_a_sign(self):
        for die, n in FEW:
            for sign in range(len(die)):
                case = (die, sign, n)
                table = weights_by_longest(die_shares(die), n, (sign,))
                self.assertEqual(share_table(die, sign, n), [as_share(share) for share in table], case)
                mean = sum([k * share for k, share in enumerate(table)])
                self.assertEqual(mean_longest(die, sign, n), as_share(mean), case)
                for k in LENGTHS:
                    self.assertEqual(share_upto(die, sign, n, k), as_share(upto(table, k)), case)
                    self.assertEqual(share_just(die, sign, n, k), as_share(table[k] if k <= n else 0), case)

    def test_runs_of_any_sign(self):
        for die, n in FEW:
            table = weights_by_longest(die_shares(die), n, (0, 1, 2))
            for k in LENGTHS:
                self.assertEqual(any_upto(die, n, k), as_share(upto(table, k)), (die, n, k))

    def test_mean_of_how_many_runs(self):
        for die, n in FEW:
            shares = die_shares(die)
            for sign in range(len(die)):
                for k in LENGTHS[1:]:
                    mean = 0
                    for row, runs, ring_runs in rows_with_runs(len(die), n):
                        many = len([run for run in runs if run[0] == sign and run[2] >= k])
                        mean += many * weight_of(row, shares) if many else 0
                    self.assertEqual(mean_runs(die, sign, n, k), as_share(mean), (die, sign, n, k))


class ToldTest(unittest.TestCase):
    """Shares reckoned by hand, at the edges."""

    def test_no_throws(self):
        for die in DICE:
            for sign in range(len(die)):
                for k in (0, 1, 40):
                    self.assertEqual(share_upto(die, sign, 0, k), (1, 1))
                    self.assertEqual(any_upto(die, 0, k), (1, 1))
                self.assertEqual([share_just(die, sign, 0, k) for k in (0, 1, 40)], [(1, 1), (0, 1), (0, 1)])
                self.assertEqual(share_table(die, sign, 0), [(1, 1)])
                self.assertEqual(mean_longest(die, sign, 0), (0, 1))
                for k in (1, 2, 40):
                    self.assertEqual(mean_runs(die, sign, 0, k), (0, 1))

    def test_one_throw(self):
        self.assertEqual([share_upto((1, 2, 3), 1, 1, k) for k in (0, 1, 40)], [(2, 3), (1, 1), (1, 1)])
        self.assertEqual([share_just((1, 2, 3), 1, 1, k) for k in (0, 1, 40)], [(2, 3), (1, 3), (0, 1)])
        self.assertEqual([any_upto((1, 2, 3), 1, k) for k in (0, 1, 40)], [(0, 1), (1, 1), (1, 1)])
        self.assertEqual(share_table((1, 3), 0, 1), [(3, 4), (1, 4)])
        self.assertEqual(share_table((1, 3), 1, 1), [(1, 4), (3, 4)])
        self.assertEqual(mean_longest((1, 3), 0, 1), (1, 4))
        self.assertEqual(mean_longest((1, 2, 3), 2, 1), (1, 2))
        self.assertEqual([mean_runs((1, 2, 3), 1, 1, k) for k in (1, 2, 40)], [(1, 3), (0, 1), (0, 1)])

    def test_some_throws(self):
        self.assertEqual(share_table((1, 1), 0, 4), [(1, 16), (7, 16), (5, 16), (1, 8), (1, 16)])
        self.assertEqual(share_upto((1, 2), 0, 2, 1), (8, 9))
        self.assertEqual(share_upto((1, 2), 1, 2, 1), (5, 9))
        self.assertEqual(share_just((2, 4), 1, 2, 2), (4, 9))
        self.assertEqual(any_upto((1, 2), 2, 1), (4, 9))
        self.assertEqual(any_upto((1, 2, 3), 2, 1), (11, 18))
        self.assertEqual(any_upto((1, 1, 1), 3, 2), (8, 9))
        self.assertEqual(mean_longest((1, 1), 0, 4), (27, 16))
        self.assertEqual([mean_runs((1, 1), 0, 4, k) for k in (1, 2, 3, 4, 5)],
                         [(5, 4), (1, 2), (3, 16), (1, 16), (0, 1)])

    def test_forty_throws(self):
        self.assertEqual(share_just((1, 1), 0, 40, 40), (1, 2 ** 40))
        self.assertEqual(share_upto((9, 1), 0, 40, 0), (1, 10 ** 40))
        self.assertEqual(share_upto((9, 1), 0, 40, 39), (10 ** 40 - 9 ** 40, 10 ** 40))
        self.assertEqual(share_upto((9, 1), 0, 40, 40), (1, 1))
        self.assertEqual(any_upto((1, 1), 40, 1), (1, 2 ** 39))
        self.assertEqual(any_upto((1, 2, 3), 40, 40), (1, 1))
        self.assertEqual(any_upto((1, 2, 3), 40, 0), (0, 1))
        self.assertEqual(any_upto((1, 1, 1), 40, 1), (2 ** 39, 3 ** 39))
        self.assertEqual(mean_runs((1, 1), 0, 40, 1), (41, 4))
        self.assertEqual(mean_runs((1, 2), 1, 40, 40), (2 ** 40, 3 ** 40))


class ManyThrowsTest(unittest.TestCase):
    """Reckoned in another way, up to the greatest numbers."""

    def test_runs_of_a_sign(self):
        for die in [(1, 1), (9, 1), (1, 2, 3), (9, 9, 9)]:
            shares = die_shares(die)
            for sign in (0, len(die) - 1):
                for n in (9, 20, 39, 40):
                    case = (die, sign, n)
                    uptos = [long_upto(shares[sign], 1 - shares[sign], n, k) for k in range(41)]
                    justs = [uptos[0]] + [uptos[k] - uptos[k - 1] for k in range(1, 41)]
                    for k in range(41):
                        self.assertEqual(share_upto(die, sign, n, k), as_share(uptos[k]), case)
                        self.assertEqual(share_just(die, sign, n, k), as_share(justs[k]), case)
                    self.assertEqual(share_table(die, sign, n), [as_share(just) for just in justs[:n + 1]], case)
                    mean = sum([k * just for k, just in enumerate(justs)])
                    self.assertEqual(mean_longest(die, sign, n), as_share(mean), case)

    def test_runs_of_any_sign(self):
        for die in [(1, 1), (9, 1), (1, 2, 3), (7, 8, 9)]:
            for n in (9, 39, 40):
                for k in (0, 1, 2, 3, 8, 20, 39, 40):
                    wanted = long_alike_upto(die_shares(die), n, k)
                    self.assertEqual(any_upto(die, n, k), as_share(wanted), (die, n, k))

    def test_mean_of_how_many_runs(self):
        for die in DICE:
            shares = die_shares(die)
            for sign in range(len(die)):
                for n in (0, 1, 9, 39, 40):
                    for k in (1, 2, 8, 9, 39, 40):
                        places = [1 if begin == 0 else 1 - shares[sign] for begin in range(n - k + 1)]
                        wanted = shares[sign] ** k * sum(places)
                        self.assertEqual(mean_runs(die, sign, n, k), as_share(wanted), (die, sign, n, k))

    def test_kinds_of_what_is_told(self):
        for die in DICE:
            for n in (0, 1, 5, 40):
                told = share_table(die, 1, n) + [mean_longest(die, 1, n)]
                for k in (1, 2, 40):
                    told += [share_upto(die, 1, n, k), share_just(die, 1, n, k), any_upto(die, n, k),
                             mean_runs(die, 1, n, k)]
                self.assertEqual(len(share_table(die, 1, n)), n + 1)
                for share in told:
                    self.assertIs(share_good(share), True, share)


class RefusalsTest(unittest.TestCase):

    def test_each_place(self):
        for die in [(1, 2), (1, 2, 3)]:
            many = len(die)
            no_sign = NO_NUMBERS + [many, many + 1, 9]
            wrong = [(NoDie, NO_DICE), (NoNumber, no_sign), (NoNumber, NO_THROWS_NUMBER),
                     (NoNumber, NO_THROWS_NUMBER)]
            for function in (share_upto, share_just):
                refused_at_each_place(self, function, (die, 1, 3, 2), wrong)
            for function in (share_table, mean_longest):
                refused_at_each_place(self, function, (die, 1, 3), wrong[:3])
            refused_at_each_place(self, any_upto, (die, 3, 2), [wrong[0], wrong[2], wrong[3]])
            wrong[3] = (NoNumber, NO_THROWS_NUMBER + [0])
            refused_at_each_place(self, mean_runs, (die, 1, 3, 2), wrong)

    def test_no_die_goes_ahead_of_all_else(self):
        for die in NO_DICE:
            refused_with(self, NoDie, share_upto, die, None, None, None)
            refused_with(self, NoDie, share_just, die, 3, 41, 41)
            refused_with(self, NoDie, any_upto, die, -1, True)
            refused_with(self, NoDie, share_table, die, [], {})
            refused_with(self, NoDie, mean_longest, die, (), "")
            refused_with(self, NoDie, mean_runs, die, 9, 41, 0)

    def test_each_number_in_range(self):
        for die in [(1, 2), (1, 2, 3)]:
            for function in (share_upto, share_just, mean_runs):
                in_range_else_refused(self, function, (die, 1, 3, 2), 1, 0, len(die) - 1)
                in_range_else_refused(self, function, (die, 1, 3, 2), 2, 0, 40)
            for function in (share_upto, share_just):
                in_range_else_refused(self, function, (die, 1, 3, 2), 3, 0, 40)
            in_range_else_refused(self, mean_runs, (die, 1, 3, 2), 3, 1, 40)
            in_range_else_refused(self, any_upto, (die, 3, 2), 1, 0, 40)
            in_range_else_refused(self, any_upto, (die, 3, 2), 2, 0, 40)
            for function in (share_table, mean_longest):
                in_range_else_refused(self, function, (die, 1, 3), 1, 0, len(die) - 1)
                in_range_else_refused(self, function, (die, 1, 3), 2, 0, 40)


class OwnAnswersTest(unittest.TestCase):

    def test_lists_are_the_asker_s_own(self):
        for die in DICE:
            for n in (0, 1, 5):
                own_list(self, share_table, die, 0, n)

    def test_same_answer_whatever_was_asked_in_between(self):
        questions = [(function, die, 0, n, k) for function in (share_upto, share_just, mean_runs)
                     for die in DICE for n in (0, 7, 40) for k in (1, 40)]
        questions += [(any_upto, die, n, k) for die in DICE for n in (0, 7, 40) for k in (0, 3)]
        questions += [(function, die, 1, n) for function in (share_table, mean_longest)
                      for die in DICE for n in (0, 7)]
        first = [question[0](*question[1:]) for question in questions]
        refused_with(self, NoDie, share_table, [1, 1], 0, 3)
        refused_with(self, NoNumber, share_table, (1, 1), 2, 3)
        again = [question[0](*question[1:]) for question in reversed(questions)]
        self.assertEqual(again[::-1], first)


class WhatFollowsTest(unittest.TestCase):
    """What 3.3 and 3.5 tell over several functions together."""

    def test_a_table_comes_to_1(self):
        for die in DICE:
            for sign in range(len(die)):
                for n in (0, 1, 2, 13, 40):
                    self.assertEqual(share_sum(share_table(die, sign, n)), (1, 1), (die, sign, n))

    def test_a_table_and_the_mean_are_of_share_just(self):
        for die in DICE:
            for n in (0, 1, 6, 40):
                table = share_table(die, 1, n)
                self.assertEqual(table, [share_just(die, 1, n, k) for k in range(n + 1)])
                mean = sum([k * as_fraction(share) for k, share in enumerate(table)])
                self.assertEqual(mean_longest(die, 1, n), as_share(mean))

    def test_share_upto_never_falls_with_k_nor_rises_with_n(self):
        for die in [(1, 2), (9, 1), (1, 2, 3)]:
            for sign in range(len(die)):
                shares = [[as_fraction(share_upto(die, sign, n, k)) for k in range(0, 41, 2)]
                          for n in range(0, 41, 2)]
                for of_one in shares:
                    self.assertEqual(of_one, sorted(of_one))
                for one, longer in zip(shares, shares[1:]):
                    self.assertTrue(all([less <= more for less, more in zip(longer, one)]))

    def test_weights_all_alike(self):
        for signs in (2, 3):
            for weight in (1, 4, 9):
                die = (weight,) * signs
                for n in (0, 1, 7, 40):
                    for sign in range(signs):
                        self.assertEqual(share_table(die, sign, n), share_table((1,) * signs, 0, n))
                        self.assertEqual(mean_longest(die, sign, n), mean_longest(die, 0, n))
                        for k in (1, 2, 40):
                            self.assertEqual(mean_runs(die, sign, n, k), mean_runs(die, 0, n, k))
                            wanted = Fraction(rows_upto(signs, n, k), signs ** n)
                            self.assertEqual(share_upto(die, sign, n, k), as_share(wanted))


if __name__ == "__main__":
    unittest.main()
