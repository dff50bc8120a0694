"""First comings [6.1 to 6.5, with 0.2 to 0.5]."""

import copy
from fractions import Fraction
import itertools
import unittest

from tests.helper import (FORTY_FIGURES, NO_DICE, NO_NUMBERS, OTHER_THINGS, asked_again, good_as_by_the_words,
                          in_range_else_refused, is_share_by_the_words, otherwise, own_list,
                          refused_at_each_place, refused_with)
from tests.reference import as_fraction, as_share, die_shares, first_coming, long_upto, solved, weight_of
from throwruns.comings import (comes_list, comes_share, half_by, mean_first, waits_good, waits_list,
                               within_share)
from throwruns.errors import NoDie, NoNumber
from throwruns.shared import share_upto
from throwruns.shares import share_good

DICE = [(1, 1), (1, 2), (9, 1), (4, 6), (1, 1, 1), (1, 2, 3), (9, 9, 9), (6, 3, 3), (1, 9, 8)]
ASKED = [(die, sign) for die in DICE for sign in range(len(die))]
LENGTHS = range(1, 9)


def mean_waits(die, sign, k):
    """The mean waits at each j, solved from what one throw makes of each."""
    own = die_shares(die)[sign]
    equations = {}
    for j in range(k):
        factors = {j + 1: own}
        factors[0] = factors.get(0, 0) + 1 - own
        equations[j] = (1, factors)
    return list(solved(list(range(k)), equations).values())


def waits_by_the_words(die, sign, k, thing):
    """Whether a thing is such a list as 6.4 tells."""
    if type(thing) is not list or len(thing) != k:
        return False
    if [share for share in thing if not is_share_by_the_words(share)]:
        return False
    own = die_shares(die)[sign]
    waits = [as_fraction(share) for share in thing] + [0]
    return all([waits[j] == 1 + own * waits[j + 1] + (1 - own) * waits[0] for j in range(k)])


class FewThrowsTest(unittest.TestCase):
    """Against all rows, one by one."""

    def test_first_comings(self):
        for die, sign in ASKED:
            shares = die_shares(die)
            most = 7 if len(die) == 2 else 5
            for k in LENGTHS:
                wanted = []
                for n in range(most + 1):
                    rows = itertools.product(range(len(die)), repeat=n)
                    wanted.append(sum([weight_of(row, shares) for row in rows if first_coming(row, sign, k) == n]))
                for n in range(most + 1):
                    case = (die, sign, k, n)
                    self.assertEqual(comes_share(*case), as_share(wanted[n]), case)
                    self.assertEqual(within_share(*case), as_share(sum(wanted[:n + 1])), case)
                    self.assertEqual(comes_list(*case), [as_share(share) for share in wanted[:n + 1]], case)


class ManyThrowsTest(unittest.TestCase):
    """Reckoned in another way, up to sixty throws."""

    def test_first_comings(self):
        for die, sign in ASKED:
            own = die_shares(die)[sign]
            for k in (1, 2, 5, 7, 8):
                within = [1 - long_upto(own, 1 - own, n, k - 1) for n in range(61)]
                comes = [within[0]] + [more - less for less, more in zip(within, within[1:])]
                self.assertEqual(comes_list(die, sign, k, 60), [as_share(share) for share in comes], (die, sign, k))
                for n in (0, k - 1, k, k + 1, 2 * k, 30, 59, 60):
                    case = (die, sign, k, n)
                    self.assertEqual(comes_share(*case), as_share(comes[n]), case)
                    self.assertEqual(within_share(*case), as_share(within[n]), case)
                    self.assertEqual(comes_list(*case), comes_list(die, sign, k, 60)[:n + 1], case)

    def test_half(self):
        met = set()
        for die, sign in ASKED:
            own = die_shares(die)[sign]
            for k in LENGTHS:
                by = [n for n in range(61) if 1 - long_upto(own, 1 - own, n, k - 1) >= Fraction(1, 2)]
                told = half_by(die, sign, k)
                self.assertEqual(told, by[0] if by else None, (die, sign, k))
                self.assertIn(type(told), (int, type(None)))
                met.add(told)
        self.assertIn(None, met)
        self.assertGreater(len(met), 12)

    def test_means(self):
        for die, sign in ASKED:
            for k in LENGTHS:
                wanted = [as_share(wait) for wait in mean_waits(die, sign, k)]
                self.assertEqual(waits_list(die, sign, k), wanted, (die, sign, k))
                self.assertEqual(mean_first(die, sign, k), wanted[0], (die, sign, k))

    def test_mean_is_that_of_the_comings(self):
        # What is left of the mean behind 60 throws is small where the sign is likely.
        for die, sign, k in [((1, 1), 0, 1), ((9, 1), 0, 1), ((9, 1), 0, 2), ((9, 1), 0, 3), ((1, 1), 1, 2)]:
            mean = sum([n * as_fraction(share) for n, share in enumerate(comes_list(die, sign, k, 60))])
            self.assertLess(mean, as_fraction(mean_first(die, sign, k)))
            self.assertLess(as_fraction(mean_first(die, sign, k)) - mean, Fraction(1, 1000))


class ToldTest(unittest.TestCase):
    """Shares reckoned by hand, at the edges."""

    def test_first_comings(self):
        for die, sign in ASKED:
            for k in LENGTHS:
                self.assertEqual(comes_share(die, sign, k, 0), (0, 1))
                self.assertEqual(within_share(die, sign, k, 0), (0, 1))
                self.assertEqual(comes_list(die, sign, k, 0), [(0, 1)])
                self.assertEqual(comes_list(die, sign, k, k - 1), [(0, 1)] * k)
        self.assertEqual(comes_list((1, 1), 0, 1, 4), [(0, 1), (1, 2), (1, 4), (1, 8), (1, 16)])
        self.assertEqual(comes_list((1, 1), 0, 2, 5), [(0, 1), (0, 1), (1, 4), (1, 8), (1, 8), (3, 32)])
        self.assertEqual(comes_list((1, 2), 1, 2, 3), [(0, 1), (0, 1), (4, 9), (4, 27)])
        self.assertEqual(comes_list((1, 2, 3), 2, 2, 3), [(0, 1), (0, 1), (1, 4), (1, 8)])
        self.assertEqual(comes_share((1, 1), 0, 1, 60), (1, 2 ** 60))
        self.assertEqual(within_share((1, 1), 0, 1, 60), (2 ** 60 - 1, 2 ** 60))
        self.assertEqual(comes_share((1, 1), 1, 8, 8), (1, 256))
        self.assertEqual(comes_share((1, 1), 1, 8, 9), (1, 512))
        self.assertEqual(within_share((1, 1), 0, 3, 4), (3, 16))

    def test_half(self):
        self.assertEqual([half_by((1, 1), 0, k) for k in (1, 2, 3)], [1, 4, 10])
        self.assertEqual(half_by((9, 1), 0, 1), 1)
        self.assertEqual(half_by((9, 1), 0, 6), 6)
        self.assertEqual(half_by((9, 1), 0, 8), 10)
        self.assertEqual(half_by((1, 2), 0, 1), 2)
        self.assertEqual(half_by((1, 9), 0, 1), 7)
        self.assertIsNone(half_by((1, 9), 0, 2))
        self.assertIsNone(half_by((1, 1), 0, 8))

    def test_half_at_its_border(self):
        # At least a half: just a half is enough.
        self.assertEqual(within_share((1, 1), 0, 2, 4), (1, 2))
        self.assertEqual(within_share((3, 3), 0, 1, 1), (1, 2))
        self.assertEqual(half_by((3, 3), 0, 1), 1)
        self.assertEqual(half_by((1, 1, 2), 2, 1), 1)
        # Of all dice, some reach a half just at 60 throws or ahead, some just do not.
        for die in itertools.product(range(1, 10), repeat=2):
            for k in LENGTHS:
                told = half_by(die, 0, k)
                last = as_fraction(within_share(die, 0, k, 60 if told is None else told))
                self.assertEqual(told is None, last < Fraction(1, 2), (die, k))
                if told is not None:
                    self.assertLess(as_fraction(within_share(die, 0, k, told - 1)), Fraction(1, 2))

    def test_means(self):
        self.assertEqual([mean_first((1, 1), 0, k) for k in LENGTHS],
                         [(2, 1), (6, 1), (14, 1), (30, 1), (62, 1), (126, 1), (254, 1), (510, 1)])
        self.assertEqual(waits_list((1, 1), 1, 1), [(2, 1)])
        self.assertEqual(waits_list((1, 1), 1, 3), [(14, 1), (12, 1), (8, 1)])
        self.assertEqual(waits_list((1, 2), 0, 3), [(39, 1), (36, 1), (27, 1)])
        self.assertEqual(waits_list((1, 2), 1, 2), [(15, 4), (9, 4)])
        self.assertEqual(mean_first((1, 2, 3), 1, 2), (12, 1))
        self.assertEqual(mean_first((1, 9, 9), 0, 8), (sum([19 ** i for i in LENGTHS]), 1))

    def test_kinds_of_what_is_told(self):
        for die, sign in ASKED:
            for k in (1, 4, 8):
                told = comes_list(die, sign, k, 20) + waits_list(die, sign, k) + [mean_first(die, sign, k)]
                told += [comes_share(die, sign, k, 60), within_share(die, sign, k, 60)]
                self.assertEqual((len(comes_list(die, sign, k, 20)), len(waits_list(die, sign, k))), (21, k))
                for share in told:
                    self.assertIs(is_share_by_the_words(share) and share_good(share), True, share)


class WaitsGoodTest(unittest.TestCase):

    def test_the_one_list(self):
        for die, sign in ASKED:
            for k in LENGTHS:
                waits = waits_list(die, sign, k)
                kept = list(waits)
                self.assertIs(waits_good(die, sign, k, waits), True)
                self.assertIs(waits_good(die, sign, k, tuple(waits)), False)
                self.assertEqual(waits, kept)
                for wrong in [waits[1:], waits[:-1], waits + [(0, 1)], [(0, 1)] + waits, waits + waits, []]:
                    self.assertIs(waits_good(die, sign, k, wrong), False)
                for at in range(k):
                    top, bottom = waits[at]
                    for other in [(top + bottom, bottom), (top - bottom, bottom), (-top, bottom), (2 * top, 2 * bottom),
                                  (-top, -bottom), [top, bottom], (top, bottom, 1), (top,), top]:
                        self.assertIs(waits_good(die, sign, k, waits[:at] + [other] + waits[at + 1:]), False)

    def test_one_thing_otherwise(self):
        for die, sign, k in [((1, 1), 0, 1), ((1, 1), 1, 3), ((1, 2), 1, 2), ((1, 2, 3), 2, 4), ((9, 1), 0, 8)]:
            waits = waits_list(die, sign, k)
            good_as_by_the_words(self, lambda thing: waits_good(die, sign, k, thing),
                                 lambda thing: waits_by_the_words(die, sign, k, thing),
                                 list(otherwise(waits)) + [waits, list(waits)])

    def test_truths_that_equal_numbers(self):
        # Of two signs, 1 in 1 cannot be a wait: but a list that equals the good one may have truths.
        self.assertEqual(waits_list((1, 1), 0, 1), [(2, 1)])
        self.assertIs(waits_good((1, 1), 0, 1, [(2, 1)]), True)
        self.assertIs(waits_good((1, 1), 0, 1, [(2, True)]), False)

    def test_waits_of_others(self):
        lists = {(die, sign, k): waits_list(die, sign, k) for die, sign in ASKED for k in (1, 2, 3, 8)}
        for asked, waits in lists.items():
            for other in lists:
                self.assertIs(waits_good(*other, waits), lists[other] == waits)

    def test_other_things(self):
        for die, sign, k in [((1, 1), 0, 1), ((1, 2, 3), 1, 2), ((9, 1), 0, 8)]:
            for thing in OTHER_THINGS + NO_DICE + [[(0, 1)] * k, [(1, 1)] * k, [(1, 0)] * k, [(0, 0)] * k,
                                                   [(FORTY_FIGURES, 1)] * k, [(1, FORTY_FIGURES)] * k]:
                self.assertIs(waits_good(die, sign, k, thing), False)
        # No share of a list that is nearly right, however near.
        waits = waits_list((1, 1), 0, 3)
        self.assertIs(waits_good((1, 1), 0, 3, waits[:2] + [(8 * FORTY_FIGURES + 1, FORTY_FIGURES)]), False)


class RefusalsTest(unittest.TestCase):

    def test_each_place(self):
        for die in [(1, 2), (1, 2, 3)]:
            wrong = [(NoDie, NO_DICE), (NoNumber, NO_NUMBERS + [len(die), len(die) + 1, 9]),
                     (NoNumber, NO_NUMBERS + [0, 9, 10, 60]), (NoNumber, NO_NUMBERS + [61, 62, 100])]
            for function in (comes_share, within_share, comes_list):
                refused_at_each_place(self, function, (die, 1, 3, 5), wrong)
                in_range_else_refused(self, function, (die, 1, 3, 5), 1, 0, len(die) - 1)
                in_range_else_refused(self, function, (die, 1, 3, 5), 2, 1, 8)
                in_range_else_refused(self, function, (die, 1, 3, 5), 3, 0, 60)
            for function in (half_by, mean_first, waits_list):
                refused_at_each_place(self, function, (die, 1, 3), wrong[:3])
                in_range_else_refused(self, function, (die, 1, 3), 1, 0, len(die) - 1)
                in_range_else_refused(self, function, (die, 1, 3), 2, 1, 8)

    def test_waits_good(self):
        for thing in [None, [(1, 1)], waits_list((1, 2), 1, 3)]:
            wrong = [(NoDie, NO_DICE), (NoNumber, NO_NUMBERS + [2, 3]), (NoNumber, NO_NUMBERS + [0, 9])]
            refused_at_each_place(self, lambda *asked: waits_good(*asked, thing), ((1, 2), 1, 3), wrong)

    def test_no_die_goes_ahead_of_all_else(self):
        for die in NO_DICE:
            for function in (comes_share, within_share, comes_list, waits_good):
                refused_with(self, NoDie, function, die, None, 9, 61)
            for function in (half_by, mean_first, waits_list):
                refused_with(self, NoDie, function, die, 3, [])


class OwnAnswersTest(unittest.TestCase):

    def test_lists_are_the_asker_s_own(self):
        for die, sign in ASKED:
            for k in (1, 3, 8):
                own_list(self, waits_list, die, sign, k)
                own_list(self, comes_list, die, sign, k, 10)
        own_list(self, comes_list, (1, 1), 0, 1, 0)

    def test_lists_handed_in_are_not_changed(self):
        for thing in [waits_list((1, 2), 0, 2), [], [(1, 1), (1, 1)], [[1, 1], [1, 1]], [{}, {}]]:
            kept = copy.deepcopy(thing)
            waits_good((1, 2), 0, 2, thing)
            self.assertEqual(thing, kept)

    def test_same_answer_whatever_was_asked_in_between(self):
        questions = [(function, die, sign, k, n) for function in (comes_share, within_share, comes_list)
                     for die, sign in ASKED for k in (1, 8) for n in (0, 9)]
        questions += [(function, die, sign, k) for function in (half_by, mean_first, waits_list)
                      for die, sign in ASKED for k in (1, 3)]
        asked_again(self, questions, [(NoDie, comes_list, [1, 1], 0, 1, 3), (NoNumber, half_by, (1, 1), 2, 3)])


class WhatFollowsTest(unittest.TestCase):
    """What 6.5 tells over several functions together."""

    def test_within_share_is_what_is_left_of_share_upto(self):
        for die, sign in ASKED:
            for k in LENGTHS:
                for n in (0, 1, k - 1, k, 20, 40):
                    left = 1 - as_fraction(share_upto(die, sign, n, k - 1))
                    self.assertEqual(within_share(die, sign, k, n), as_share(left), (die, sign, k, n))

    def test_comes_share_by_the_within_share_ahead(self):
        for die, sign in ASKED:
            own = die_shares(die)[sign]
            for k in LENGTHS:
                self.assertEqual(comes_share(die, sign, k, k), as_share(own ** k))
                for n in (k + 1, k + 2, 2 * k + 1, 59, 60):
                    left = 1 - as_fraction(within_share(die, sign, k, n - k - 1))
                    self.assertEqual(comes_share(die, sign, k, n), as_share(own ** k * (1 - own) * left))

    def test_mean_is_a_sum_of_powers(self):
        for die, sign in ASKED:
            for k in LENGTHS:
                powers = [1 / die_shares(die)[sign] ** i for i in range(1, k + 1)]
                self.assertEqual(mean_first(die, sign, k), as_share(sum(powers)))
                self.assertEqual(waits_list(die, sign, k)[0], mean_first(die, sign, k))

    def test_within_share_is_the_sum_of_the_comings(self):
        for die, sign in ASKED:
            for k in (1, 3, 8):
                for n in (0, 1, 8, 60):
                    total = sum([as_fraction(share) for share in comes_list(die, sign, k, n)])
                    self.assertEqual(within_share(die, sign, k, n), as_share(total))


if __name__ == "__main__":
    unittest.main()
