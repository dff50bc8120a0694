"""Bounds for ever [8.1 to 8.5, with 0.2 to 0.5]."""

from fractions import Fraction
import itertools
import random
import unittest

from tests.helper import (FORTY_FIGURES, NO_DICE, NO_NUMBERS, OTHER_THINGS, asked_again, good_as_by_the_words,
                          in_range_else_refused, is_share_by_the_words, otherwise, refused_at_each_place,
                          refused_with)
from tests.reference import as_fraction, as_share, die_shares
from throwruns.bounds import (above_at, above_good, above_paper, below_at, below_good, below_paper, closer,
                              factors_of, stepped)
from throwruns.errors import NoDie, NoNumber, NoPaper
from throwruns.shared import share_upto

DICE = [(1, 1), (1, 2), (9, 1), (4, 6), (1, 1, 1), (1, 2, 3), (9, 9, 9), (1, 9, 8)]
ASKED = [(die, sign, k) for die in DICE for sign in range(len(die)) for k in range(1, 9)]
EVEN = ((1, 1), (1, 1), (1, 1))
FALLING = ((4, 1), (3, 1), (2, 1))

# Of (1, 1), 0 and 3, stepped EVEN is (1, 1, 1/2), stepped FALLING is (7/2, 3, 2): the factors
# are from 1/2 to 1, and from 7/8 to 1.
NO_WEIGHTS = OTHER_THINGS + [
    (), EVEN[:2], EVEN + ((1, 1),), list(EVEN), (EVEN,), ((0, 1), (1, 1), (1, 1)), ((1, 1), (1, 1), (0, 1)),
    ((1, 1), (-1, 1), (1, 1)), ((1, 1), (1, -1), (1, 1)), ((-1, -1), (1, 1), (1, 1)), ((2, 2), (1, 1), (1, 1)),
    ((1, 1), (2, 4), (1, 1)), ((1, 0), (1, 1), (1, 1)), ([1, 1], (1, 1), (1, 1)), ((1, 1), (1, True), (1, 1)),
    ((True, 1), (1, 1), (1, 1)), ((1, 1), (1,), (1, 1)), ((1, 1), (1, 1, 1), (1, 1)), ((1, 1), None, (1, 1)),
    ((1, 1), 1, (1, 1)), ((1, 1), "11", (1, 1)), (1, 1, 1), ((1, 1), (1, 1), (1, None)), {0: (1, 1)}, "111"]
NO_BOUNDS = OTHER_THINGS + [(weights, (1, 1)) for weights in NO_WEIGHTS] + [
    EVEN, (EVEN,), (EVEN, (1, 1), (1, 1)), [EVEN, (1, 1)], ((1, 1), EVEN), (EVEN, 1), (EVEN, None), (EVEN, True),
    (EVEN, "1"), (EVEN, [1, 1]), (EVEN, (1,)), (EVEN, (1, 1, 1)), (EVEN, (-1, 1)), (EVEN, (2, 2)), (EVEN, (0, 2)),
    (EVEN, (1, 0)), (EVEN, (1, -1)), (EVEN, (-1, -1)), (EVEN, (True, 1)), (EVEN, (1, True)), (EVEN, ()),
    (EVEN, (-FORTY_FIGURES, 1)), (EVEN, {}), (EVEN, EVEN)]
NOT_FROM_ABOVE = NO_BOUNDS + [(EVEN, (0, 1)), (EVEN, (1, 2)), (EVEN, (99, 100)), (FALLING, (7, 8)), (FALLING, (0, 1))]
NOT_FROM_BELOW = NO_BOUNDS + [(EVEN, (1, 1)), (EVEN, (51, 100)), (EVEN, (FORTY_FIGURES, 1)), (FALLING, (1, 1)),
                              (FALLING, (701, 800))]


def some_weights(seed, k, many):
    """So many tuples of k weights, the same ones for the same seed."""
    chance = random.Random(seed)
    return [tuple([as_share(Fraction(chance.randrange(1, 50), chance.randrange(1, 20))) for j in range(k)])
            for time in range(many)]


def stepped_by_the_words(die, sign, k, weights):
    """What 8.1 tells, as fractions."""
    own = die_shares(die)[sign]
    numbers = [as_fraction(weight) for weight in weights] + [0]
    return [own * numbers[j + 1] + (1 - own) * numbers[0] for j in range(k)]


def factors_by_the_words(die, sign, k, weights):
    """The share at each stand that 8.2 tells of, as fractions."""
    after = stepped_by_the_words(die, sign, k, weights)
    return [one / as_fraction(weight) for one, weight in zip(after, weights)]


def bound_by_the_words(die, sign, k, thing):
    """The weights and the factor of a bound, as 8.3 tells; None of another thing."""
    if type(thing) is not tuple or len(thing) != 2 or type(thing[0]) is not tuple or len(thing[0]) != k:
        return None
    if [share for share in thing[0] + (thing[1],) if not is_share_by_the_words(share)]:
        return None
    if [share for share in thing[0] if share[0] <= 0] or thing[1][0] < 0:
        return None
    return thing


def above_by_the_words(die, sign, k, thing):
    """Whether a thing is a bound from above."""
    bound = bound_by_the_words(die, sign, k, thing)
    return bound is not None and all([one <= as_fraction(bound[1]) * as_fraction(weight) for one, weight in zip(
        stepped_by_the_words(die, sign, k, bound[0]), bound[0])])


def below_by_the_words(die, sign, k, thing):
    """Whether a thing is a bound from below."""
    bound = bound_by_the_words(die, sign, k, thing)
    return bound is not None and all([one >= as_fraction(bound[1]) * as_fraction(weight) for one, weight in zip(
        stepped_by_the_words(die, sign, k, bound[0]), bound[0])])


class SteppedTest(unittest.TestCase):

    def test_by_the_words(self):
        for die, sign, k in ASKED:
            for weights in some_weights(k, k, 3) + [((1, 1),) * k, tuple([(k - j, 1) for j in range(k)])]:
                told = stepped(die, sign, k, weights)
                wanted = stepped_by_the_words(die, sign, k, weights)
                self.assertEqual(told, tuple([as_share(number) for number in wanted]), (die, sign, k))
                self.assertIs(type(told), tuple)
                for share in told:
                    self.assertTrue(is_share_by_the_words(share) and share[0] > 0, share)
                factors = factors_by_the_words(die, sign, k, weights)
                self.assertEqual(factors_of(die, sign, k, weights), (as_share(min(factors)), as_share(max(factors))))

    def test_told(self):
        self.assertEqual(stepped((1, 1), 0, 1, ((3, 1),)), ((3, 2),))
        self.assertEqual(stepped((1, 2), 1, 2, ((1, 1), (2, 1))), ((5, 3), (1, 3)))
        self.assertEqual(stepped((1, 2, 3), 2, 3, ((1, 1), (1, 2), (1, 4))), ((3, 4), (5, 8), (1, 2)))
        self.assertEqual(stepped((1, 1), 0, 3, EVEN), ((1, 1), (1, 1), (1, 2)))
        self.assertEqual(stepped((1, 1), 0, 3, FALLING), ((7, 2), (3, 1), (2, 1)))
        self.assertEqual(stepped((1, 1), 1, 8, ((1, 1),) * 8), ((1, 1),) * 7 + ((1, 2),))
        self.assertEqual(factors_of((1, 1), 0, 1, ((3, 1),)), ((1, 2), (1, 2)))
        self.assertEqual(factors_of((1, 2), 1, 2, ((1, 1), (2, 1))), ((1, 6), (5, 3)))
        self.assertEqual(factors_of((1, 1), 0, 3, EVEN), ((1, 2), (1, 1)))
        self.assertEqual(factors_of((1, 1), 0, 3, FALLING), ((7, 8), (1, 1)))
        self.assertEqual(factors_of((9, 1), 0, 8, ((1, 1),) * 8), ((1, 10), (1, 1)))

    def test_great_weights(self):
        weights = ((FORTY_FIGURES, 1), (1, FORTY_FIGURES))
        after = stepped_by_the_words((1, 2), 0, 2, weights)
        self.assertEqual(stepped((1, 2), 0, 2, weights), tuple([as_share(number) for number in after]))
        self.assertEqual(factors_of((1, 2), 0, 2, weights)[1], as_share(after[1] * FORTY_FIGURES))

    def test_stepped_again_and_again(self):
        for die, sign, k in ASKED[::7]:
            weights = some_weights(20 + k, k, 1)[0]
            wanted = [as_fraction(weight) for weight in weights]
            for time in range(12):
                wanted = stepped_by_the_words(die, sign, k, [as_share(number) for number in wanted])
                weights = stepped(die, sign, k, weights)
            self.assertEqual(weights, tuple([as_share(number) for number in wanted]))


class GoodTest(unittest.TestCase):

    def test_at_the_border_and_beside_it(self):
        near = Fraction(1, 10 ** 30)
        for die, sign, k in ASKED:
            for weights in some_weights(30 + k, k, 2) + [((1, 1),) * k]:
                factors = factors_by_the_words(die, sign, k, weights)
                for factor in [0, near, min(factors) - near, min(factors), min(factors) + near, max(factors) - near,
                               max(factors), max(factors) + near, 1, 2, FORTY_FIGURES]:
                    bound = (weights, as_share(factor))
                    self.assertIs(above_good(die, sign, k, bound), factor >= max(factors), (die, sign, k, bound))
                    self.assertIs(below_good(die, sign, k, bound), 0 <= factor <= min(factors), (die, sign, k, bound))
                self.assertIs(below_good(die, sign, k, (weights, as_share(-near))), False)

    def test_told(self):
        for factor, above, below in [((0, 1), False, True), ((1, 2), False, True), ((51, 100), False, False),
                                     ((1, 1), True, False), ((2, 1), True, False), ((99, 100), False, False),
                                     ((-1, 1), False, False), ((1, 0), False, False), ((2, 2), False, False)]:
            self.assertIs(above_good((1, 1), 0, 3, (EVEN, factor)), above)
            self.assertIs(below_good((1, 1), 0, 3, (EVEN, factor)), below)
        # Just one factor may be from above and from below.
        for good in (above_good, below_good):
            self.assertIs(good((1, 2), 0, 1, (((5, 7),), (2, 3))), True)
            self.assertIs(good((1, 1), 0, 1, (((5, 7),), (1, 2))), True)

    def test_other_things(self):
        for thing in NOT_FROM_ABOVE:
            self.assertIs(above_good((1, 1), 0, 3, thing), False, thing)
        for thing in NOT_FROM_BELOW:
            self.assertIs(below_good((1, 1), 0, 3, thing), False, thing)

    def test_one_thing_otherwise(self):
        for die, sign, k, weights in [((1, 1), 0, 1, ((1, 1),)), ((1, 2), 1, 2, ((2, 1), (1, 3))),
                                      ((1, 1), 0, 3, FALLING), ((1, 2, 3), 1, 4, ((5, 1), (4, 1), (3, 1), (2, 1)))]:
            low, high = factors_of(die, sign, k, weights)
            for bound in [(weights, high), (weights, low)]:
                things = list(otherwise(bound)) + [bound]
                for good, by_the_words in [(above_good, above_by_the_words), (below_good, below_by_the_words)]:
                    good_as_by_the_words(self, lambda thing: good(die, sign, k, thing),
                                         lambda thing: by_the_words(die, sign, k, thing),
                                         things + [(weights, high), (weights, low)])


class AtTest(unittest.TestCase):

    def test_by_the_words(self):
        for die, sign, k in ASKED:
            for weights in some_weights(40 + k, k, 1) + [((1, 1),) * k]:
                numbers = [as_fraction(weight) for weight in weights]
                factors = factors_by_the_words(die, sign, k, weights)
                for n in (0, 1, 2, 17, 40):
                    for factor in (max(factors), max(factors) + 1):
                        wanted = factor ** n * numbers[0] / min(numbers)
                        self.assertEqual(above_at(die, sign, k, (weights, as_share(factor)), n), as_share(wanted))
                    for factor in (min(factors), min(factors) / 3, Fraction(0)):
                        wanted = factor ** n * numbers[0] / max(numbers)
                        self.assertEqual(below_at(die, sign, k, (weights, as_share(factor)), n), as_share(wanted))

    def test_told(self):
        self.assertEqual([above_at((1, 1), 0, 3, (FALLING, (1, 1)), n) for n in (0, 1, 40)], [(2, 1)] * 3)
        self.assertEqual([below_at((1, 1), 0, 3, (FALLING, (7, 8)), n) for n in (0, 1, 2)], [(1, 1), (7, 8), (49, 64)])
        self.assertEqual([below_at((1, 1), 0, 3, (EVEN, (0, 1)), n) for n in (0, 1, 40)], [(1, 1), (0, 1), (0, 1)])
        self.assertEqual(above_at((1, 1), 0, 1, (((3, 1),), (1, 2)), 40), (1, 2 ** 40))
        self.assertEqual(below_at((1, 1), 0, 1, (((3, 1),), (1, 2)), 40), (1, 2 ** 40))
        rising = ((1, 1), (2, 1))
        self.assertEqual(above_at((1, 2), 1, 2, (rising, (5, 3)), 2), (25, 9))
        self.assertEqual(below_at((1, 2), 1, 2, (rising, (1, 6)), 2), (1, 72))


class PapersTest(unittest.TestCase):

    def test_some_papers(self):
        dice = list(itertools.product(range(1, 10), repeat=2)) + list(itertools.product((1, 5, 9), repeat=3))
        for die in dice:
            for sign in (0, len(die) - 1):
                for k in (1, 2, 5, 8):
                    above, below = above_paper(die, sign, k), below_paper(die, sign, k)
                    self.assertIs(above_by_the_words(die, sign, k, above), True, (die, sign, k))
                    self.assertIs(above_good(die, sign, k, above), True, (die, sign, k))
                    self.assertLess(as_fraction(above[1]), 1)
                    self.assertIs(below_by_the_words(die, sign, k, below), True, (die, sign, k))
                    self.assertIs(below_good(die, sign, k, below), True, (die, sign, k))
                    self.assertGreater(as_fraction(below[1]), 0)

    def test_closer(self):
        for die, sign, k in ASKED:
            for weights in some_weights(50 + k, k, 1) + [((1, 1),) * k, above_paper(die, sign, k)[0]]:
                high = max(factors_by_the_words(die, sign, k, weights))
                for factor in (high, high + 1):
                    after, least = closer(die, sign, k, (weights, as_share(factor)))
                    self.assertEqual(after, stepped(die, sign, k, weights))
                    self.assertEqual(least, as_share(max(factors_by_the_words(die, sign, k, after))))
                    self.assertLessEqual(as_fraction(least), high)
                    self.assertIs(above_good(die, sign, k, (after, least)), True)

    def test_closer_again_and_again(self):
        for die, sign, k in ASKED[::5]:
            bound = above_paper(die, sign, k)
            for time in range(8):
                nearer = closer(die, sign, k, bound)
                self.assertLessEqual(as_fraction(nearer[1]), as_fraction(bound[1]))
                self.assertIs(above_by_the_words(die, sign, k, nearer), True)
                bound = nearer

    def test_told_closer(self):
        self.assertEqual(closer((1, 1), 0, 1, (((3, 1),), (1, 2))), (((3, 2),), (1, 2)))
        self.assertEqual(closer((1, 1), 0, 1, (((3, 1),), (9, 1))), (((3, 2),), (1, 2)))
        self.assertEqual(closer((1, 1), 0, 3, (EVEN, (1, 1))), (((1, 1), (1, 1), (1, 2)), (1, 1)))
        self.assertEqual(closer((1, 1), 0, 3, (((1, 1), (1, 1), (1, 2)), (1, 1))), (((1, 1), (3, 4), (1, 2)), (1, 1)))
        self.assertEqual(closer((1, 1), 0, 2, (((1, 1), (1, 2)), (1, 1))), (((3, 4), (1, 2)), (5, 6)))


class RefusalsTest(unittest.TestCase):

    def test_each_place(self):
        first = [(NoDie, NO_DICE), (NoNumber, NO_NUMBERS + [2, 3]), (NoNumber, NO_NUMBERS + [0, 9, 10])]
        last = (NoNumber, NO_NUMBERS + [41, 42, 100])
        for function in (stepped, factors_of):
            refused_at_each_place(self, function, ((1, 1), 0, 3, EVEN), first + [(NoPaper, NO_WEIGHTS)])
        refused_at_each_place(self, above_at, ((1, 1), 0, 3, (EVEN, (1, 1)), 5),
                              first + [(NoPaper, NOT_FROM_ABOVE), last])
        refused_at_each_place(self, below_at, ((1, 1), 0, 3, (EVEN, (1, 2)), 5),
                              first + [(NoPaper, NOT_FROM_BELOW), last])
        refused_at_each_place(self, closer, ((1, 1), 0, 3, (EVEN, (1, 1))), first + [(NoPaper, NOT_FROM_ABOVE)])
        for function in (above_paper, below_paper):
            refused_at_each_place(self, function, ((1, 1), 0, 3), first)

    def test_good_functions(self):
        wrong = [(NoDie, NO_DICE), (NoNumber, NO_NUMBERS + [3, 4]), (NoNumber, NO_NUMBERS + [0, 9])]
        for thing in [None, (EVEN, (1, 1)), (EVEN, (0, 1))]:
            for function in (above_good, below_good):
                refused_at_each_place(self, lambda *asked: function(*asked, thing), ((1, 2, 3), 2, 3), wrong)

    def test_each_number_in_range(self):
        for die in [(1, 2), (1, 2, 3)]:
            for function in (above_paper, below_paper):
                in_range_else_refused(self, function, (die, 1, 3), 1, 0, len(die) - 1)
                in_range_else_refused(self, function, (die, 1, 3), 2, 1, 8)
            in_range_else_refused(self, stepped, (die, 1, 3, EVEN), 1, 0, len(die) - 1)
            in_range_else_refused(self, factors_of, (die, 1, 3, EVEN), 1, 0, len(die) - 1)
            in_range_else_refused(self, above_at, (die, 1, 3, above_paper(die, 1, 3), 5), 4, 0, 40)
            in_range_else_refused(self, below_at, (die, 1, 3, below_paper(die, 1, 3), 5), 4, 0, 40)

    def test_as_many_weights_as_stands(self):
        for k in range(1, 9):
            weights = ((1, 1),) * k
            for other in range(1, 9):
                if other == k:
                    stepped((1, 2), 0, k, weights)
                    self.assertIs(above_good((1, 2), 0, k, (weights, (1, 1))), True)
                else:
                    self.assertIs(above_good((1, 2), 0, other, (weights, (1, 1))), False)
                    self.assertIs(below_good((1, 2), 0, other, (weights, (0, 1))), False)
                    for function in (stepped, factors_of):
                        refused_with(self, NoPaper, function, (1, 2), 0, other, weights)
                    refused_with(self, NoPaper, closer, (1, 2), 0, other, (weights, (1, 1)))
                    refused_with(self, NoPaper, above_at, (1, 2), 0, other, (weights, (1, 1)), 0)
                    refused_with(self, NoPaper, below_at, (1, 2), 0, other, (weights, (0, 1)), 0)

    def test_weights_with_one_thing_otherwise(self):
        for thing in otherwise(FALLING):
            if bound_by_the_words((1, 2), 0, 3, (thing, (1, 1))) is None:
                for function in (stepped, factors_of):
                    refused_with(self, NoPaper, function, (1, 2), 0, 3, thing)
                refused_with(self, NoPaper, above_at, (1, 2), 0, 3, (thing, (FORTY_FIGURES, 1)), None)
                refused_with(self, NoPaper, below_at, (1, 2), 0, 3, (thing, (0, 1)), 41)
                refused_with(self, NoPaper, closer, (1, 2), 0, 3, (thing, (FORTY_FIGURES, 1)))


class OwnAnswersTest(unittest.TestCase):

    def test_same_answer_whatever_was_asked_in_between(self):
        questions = [(function, *asked) for function in (above_paper, below_paper) for asked in ASKED]
        for asked in ASKED:
            weights = ((1, 1),) * asked[2]
            questions += [(stepped, *asked, weights), (factors_of, *asked, weights),
                          (closer, *asked, (weights, (1, 1))),
                          (above_at, *asked, above_paper(*asked), 40), (below_at, *asked, below_paper(*asked), 40)]
        asked_again(self, questions, [(NoPaper, stepped, (1, 1), 0, 3, EVEN[:2]), (NoDie, above_paper, [1, 1], 0, 3),
                                      (NoPaper, closer, (1, 1), 0, 3, (EVEN, (1, 2)))])


class WhatFollowsTest(unittest.TestCase):
    """What 8.5 tells over several functions together."""

    def test_bounds_hold(self):
        for die, sign, k in ASKED:
            above, below = above_paper(die, sign, k), below_paper(die, sign, k)
            bounds = [(above, below), (closer(die, sign, k, above), below)]
            for weights in some_weights(60 + k, k, 1) + [((1, 1),) * k]:
                low, high = factors_of(die, sign, k, weights)
                bounds.append(((weights, high), (weights, low)))
            for n in (0, 1, k, 2 * k, 25, 40):
                left = as_fraction(share_upto(die, sign, n, k - 1))
                for from_above, from_below in bounds:
                    self.assertLessEqual(left, as_fraction(above_at(die, sign, k, from_above, n)))
                    self.assertGreaterEqual(left, as_fraction(below_at(die, sign, k, from_below, n)))

    def test_of_k_1_the_bounds_are_what_they_bound(self):
        for die in DICE:
            for sign in range(len(die)):
                weights = ((7, 3),)
                low, high = factors_of(die, sign, 1, weights)
                for n in (0, 1, 40):
                    left = share_upto(die, sign, n, 0)
                    self.assertEqual(above_at(die, sign, 1, (weights, high), n), left)
                    self.assertEqual(below_at(die, sign, 1, (weights, low), n), left)

    def test_weights_with_low_and_high_are_bounds(self):
        for die, sign, k in ASKED:
            for weights in some_weights(70 + k, k, 2):
                low, high = factors_of(die, sign, k, weights)
                self.assertIs(below_good(die, sign, k, (weights, low)), True)
                self.assertIs(above_good(die, sign, k, (weights, high)), True)

    def test_stepped_weights_have_closer_factors(self):
        for die, sign, k in ASKED:
            for weights in some_weights(80 + k, k, 2):
                low, high = factors_of(die, sign, k, weights)
                after = factors_of(die, sign, k, stepped(die, sign, k, weights))
                self.assertGreaterEqual(as_fraction(after[0]), as_fraction(low))
                self.assertLessEqual(as_fraction(after[1]), as_fraction(high))


if __name__ == "__main__":
    unittest.main()
