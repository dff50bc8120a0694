"""Whole numbers and shares [0.3], against Python's own fractions."""

import copy
import itertools
import math
import unittest
from fractions import Fraction

from tests.helper import FORTY_FIGURES, OTHER_THINGS, nested
from throwruns import shares

TOPS = list(range(-7, 8)) + [360, -360, FORTY_FIGURES]
BOTTOMS = [number for number in TOPS if number != 0]
SOME = [shares.share_of(top, bottom) for top in range(-6, 7) for bottom in range(1, 7)]


def fraction(share):
    return Fraction(share[0], share[1])


class SharesTest(unittest.TestCase):

    def check(self, share, wanted):
        """A share in lowest terms, bottom above 0, that stands for what is wanted."""
        self.assertIs(type(share), tuple)
        top, bottom = share
        self.assertIs(type(top), int)
        self.assertIs(type(bottom), int)
        self.assertGreater(bottom, 0)
        self.assertEqual(math.gcd(top, bottom), 1)
        self.assertEqual(Fraction(top, bottom), wanted)

    def test_share_of(self):
        for top, bottom in itertools.product(TOPS, BOTTOMS):
            with self.subTest(top=top, bottom=bottom):
                self.check(shares.share_of(top, bottom), Fraction(top, bottom))

    def test_share_of_edges(self):
        self.assertEqual(shares.share_of(0, 5), (0, 1))
        self.assertEqual(shares.share_of(0, -5), (0, 1))
        self.assertEqual(shares.share_of(-4, 6), (-2, 3))
        self.assertEqual(shares.share_of(4, -6), (-2, 3))
        self.assertEqual(shares.share_of(-4, -6), (2, 3))
        self.assertEqual(shares.share_of(7, 1), (7, 1))

    def test_no_share_has_bottom_0(self):
        for top in (0, 1, -3):
            with self.subTest(top=top):
                self.assertRaises(ZeroDivisionError, shares.share_of, top, 0)
                self.assertRaises(ZeroDivisionError, shares.share_by, shares.share_of(top, 1), (0, 1))

    def test_two_shares(self):
        for one, other in itertools.product(SOME, repeat=2):
            left, right = fraction(one), fraction(other)
            self.check(shares.share_plus(one, other), left + right)
            self.check(shares.share_less(one, other), left - right)
            self.check(shares.share_times(one, other), left * right)
            if right != 0:
                self.check(shares.share_by(one, other), left / right)
            self.assertIs(shares.share_below(one, other), left < right)

    def test_whole_power(self):
        for base in (-2, -1, 0, 1, 2, 3, 27):
            for exponent in (0, 1, 2, 3, 40):
                self.assertEqual(shares.whole_power(base, exponent), base ** exponent)

    def test_power(self):
        for share in SOME:
            for exponent in (0, 1, 2, 3, 7, 40):
                self.check(shares.share_power(share, exponent), fraction(share) ** exponent)

    def test_sum_least_and_greatest(self):
        for many in (1, 2, 5, len(SOME)):
            for begin in range(0, len(SOME) - many + 1):
                part = SOME[begin:begin + many]
                fractions = [fraction(share) for share in part]
                self.check(shares.share_sum(part), sum(fractions))
                self.check(shares.share_least(part), min(fractions))
                self.check(shares.share_greatest(part), max(fractions))
                self.check(shares.share_greatest(tuple(part)), max(fractions))
        self.assertEqual(shares.share_sum([]), (0, 1))

    def test_nothing_handed_in_is_changed(self):
        part = list(SOME)
        shares.share_sum(part)
        shares.share_least(part)
        shares.share_greatest(part)
        self.assertEqual(part, SOME)

    def test_nothing_and_all(self):
        self.check(shares.NOTHING, 0)
        self.check(shares.ALL, 1)


class ShareGoodTest(unittest.TestCase):

    def test_shares_are_good(self):
        good = [(0, 1), (1, 1), (1, 2), (-1, 2), (-7, 1), (9, 8), (FORTY_FIGURES, 1),
                (1, FORTY_FIGURES), (-FORTY_FIGURES, FORTY_FIGURES - 1)]
        for thing in good + SOME:
            with self.subTest(thing=thing):
                self.assertIs(shares.share_good(thing), True)

    def test_just_the_lowest_terms_are_good(self):
        for top, bottom in itertools.product(range(-12, 13), repeat=2):
            wanted = bottom > 0 and math.gcd(top, bottom) == 1
            self.assertIs(shares.share_good((top, bottom)), wanted, (top, bottom))

    def test_others_are_not(self):
        bad = [(0, 2), (2, 2), (2, 4), (-2, 4), (1, 0), (0, 0), (1, -2), (0, -1),
               (1,), (1, 2, 3), (), [1, 2], (True, 2), (1, True), (False, 1), (None, 1),
               (1, None), ("1", 2), (1, "2"), ((1, 2), 1), (1, (2,)), (1, nested(7, list))]
        for thing in bad + OTHER_THINGS:
            with self.subTest(thing=thing):
                kept = copy.deepcopy(thing)
                self.assertIs(shares.share_good(thing), False)
                self.assertEqual(thing, kept)


class WholeTest(unittest.TestCase):

    def test_whole_numbers(self):
        for thing in (0, 1, -1, FORTY_FIGURES, -FORTY_FIGURES):
            self.assertIs(shares.is_whole(thing), True)

    def test_truths_and_others_are_none(self):
        for thing in (True, False, None, "1", "", [1], (1,), (), {}, {1: 1}):
            self.assertIs(shares.is_whole(thing), False)
            self.assertIs(shares.is_whole_within(thing, 0, 1), False)

    def test_within(self):
        told = [shares.is_whole_within(thing, 2, 4) for thing in range(1, 6)]
        self.assertEqual(told, [False, True, True, True, False])


if __name__ == "__main__":
    unittest.main()
