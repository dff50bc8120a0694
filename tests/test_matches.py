"""Who first [7.1 to 7.5, with 0.2 to 0.5]."""

from fractions import Fraction
import itertools
import unittest

from tests.helper import (FORTY_FIGURES, NO_DICE, NO_NUMBERS, NO_ROWS, OTHER_THINGS, asked_again,
                          good_as_by_the_words, in_range_else_refused, is_share_by_the_words, otherwise, own_list,
                          refused_at_each_place, refused_with, short_rows)
from tests.reference import as_fraction, as_share, die_shares, solved, weight_of, who_first
from throwruns.comings import mean_first, within_share
from throwruns.errors import NoLine, NoNumber
from throwruns.matches import (first_share, match_good, mean_throws, paper_good, share_paper, shares_by,
                               stands_list)
from throwruns.shares import share_good

DICE = [(1, 1), (1, 2), (9, 1), (1, 1, 1), (1, 2, 3), (9, 9, 9), (1, 9, 8)]
SIDES = [(die, sign, other) for die in DICE for sign, other in itertools.permutations(range(len(die)), 2)]
LENGTHS = range(1, 7)
MATCHES = [(die, sign, k, other, length) for die, sign, other in SIDES for k in (1, 2, 4, 6) for length in (1, 3, 6)]
SOME = MATCHES[::11] + [((1, 1), 0, 6, 1, 6), ((9, 9, 9), 2, 1, 0, 1), ((1, 2, 3), 2, 3, 0, 2)]

NO_MATCHES = OTHER_THINGS + NO_ROWS + NO_DICE + [
    (1, 1), (1, 2, 3), (0, 1, 0, 1, 1), ((1, 1), 0, 2, 1), ((1, 1), 0, 2, 1, 2, 0), (0, 2, 1, 2), ((1, 1), 0, 1),
    [(1, 1), 0, 2, 1, 2], ([1, 1], 0, 2, 1, 2), ((1,), 0, 2, 1, 2), ((1, 1, 1, 1), 0, 2, 1, 2), ((0, 1), 0, 2, 1, 2),
    ((1, 10), 0, 2, 1, 2), ((1, True), 0, 2, 1, 2), ((1, 1), 0, 2, 0, 2), ((1, 1), 1, 2, 1, 3), ((1, 1), 2, 2, 1, 2),
    ((1, 1), 0, 2, 2, 2), ((1, 1), -1, 2, 1, 2), ((1, 1), 0, 2, -1, 2), ((1, 1, 1), 0, 2, 3, 2), ((1, 1), 0, 0, 1, 2),
    ((1, 1), 0, 7, 1, 2), ((1, 1), 0, 2, 1, 0), ((1, 1), 0, 2, 1, 7), ((1, 1), 0, -1, 1, 2), ((1, 1), False, 2, 1, 2),
    ((1, 1), 0, 2, True, 2), ((1, 1), 0, True, 1, 2), ((1, 1), 0, 2, 1, True), ((1, 1), None, 2, 1, 2),
    ((1, 1), 0, None, 1, 2), ((1, 1), 0, 2, None, 2), ((1, 1), 0, 2, 1, None), ((1, 1), "0", 2, 1, 2),
    ((1, 1), 0, "2", 1, 2), ((1, 1), 0, 2, [1], 2), ((1, 1), 0, 2, 1, (2,)), ((1, 1), {}, 2, 1, 2),
    ((1, 1), 0, FORTY_FIGURES, 1, 2), ((1, 1), FORTY_FIGURES, 2, 1, 2), (((1, 1), 0, 2, 1, 2),), (None, 0, 2, 1, 2)]


def match_by_the_words(thing):
    """Whether a thing is a match, as 7.1 tells."""
    if type(thing) is not tuple or len(thing) != 5:
        return False
    die, sign, k, other, length = thing
    if type(die) is not tuple or len(die) not in (2, 3):
        return False
    if [weight for weight in die if type(weight) is not int or weight not in range(1, 10)]:
        return False
    if [number for number in thing[1:] if type(number) is not int]:
        return False
    signs = range(len(die))
    return sign in signs and other in signs and sign != other and k in range(1, 7) and length in range(1, 7)


def stand_of(match, row):
    """The stand, or the run that is there, with which a row ends, as 7.2 tells."""
    sign, other = match[1], match[3]
    if not row or row[-1] not in (sign, other):
        return (None, 0)
    many = len(list(itertools.takewhile(lambda thrown: thrown == row[-1], reversed(row))))
    return (row[-1], many)


def row_to(stand):
    """A row that ends at a stand."""
    return () if stand[0] is None else (stand[0],) * stand[1]


def solved_at_stands(match, at_one, at_other, more):
    """At each stand, more and what follows in the mean, where the one run or the other gives these numbers."""
    die, sign, k, other, length = match
    stands = [(None, 0)] + [(sign, many) for many in range(1, k)] + [(other, many) for many in range(1, length)]
    equations = {}
    for stand in stands:
        number, factors = more, {}
        for thrown, share in enumerate(die_shares(die)):
            behind = stand_of(match, row_to(stand) + (thrown,))
            if behind == (sign, k):
                number += share * at_one
            elif behind == (other, length):
                number += share * at_other
            else:
                factors[behind] = factors.get(behind, 0) + share
        equations[stand] = (number, factors)
    return solved(stands, equations)


def paper_by_the_words(match, thing):
    """Whether a thing is such a tuple as 7.3 tells: that there is just one is told there."""
    if type(thing) is not tuple or [share for share in thing if not is_share_by_the_words(share)]:
        return False
    return list(solved_at_stands(match, 1, 0, 0).values()) == [as_fraction(share) for share in thing]


def played(match, n):
    """The three shares behind n throws, by the stands that single throws come to."""
    die, sign, k, other, length = match
    ends, one, two = {(None, 0): Fraction(1)}, Fraction(0), Fraction(0)
    for throw in range(n):
        grown = {}
        for stand, share in ends.items():
            for thrown, chance in enumerate(die_shares(die)):
                behind = stand_of(match, row_to(stand) + (thrown,))
                if behind == (sign, k):
                    one += share * chance
                elif behind == (other, length):
                    two += share * chance
                else:
                    grown[behind] = grown.get(behind, 0) + share * chance
        ends = grown
    return (as_share(one), as_share(two), as_share(sum(ends.values())))


class MatchGoodTest(unittest.TestCase):

    def test_good_matches(self):
        for match in MATCHES:
            self.assertIs(match_good(match), True, match)
        for k in LENGTHS:
            for length in LENGTHS:
                self.assertIs(match_good(((1, 9), 1, k, 0, length)), True)

    def test_other_things(self):
        for thing in NO_MATCHES:
            self.assertIs(match_good(thing), False, thing)

    def test_one_thing_otherwise(self):
        for match in SOME:
            good_as_by_the_words(self, match_good, match_by_the_words, otherwise(match))


class StandsTest(unittest.TestCase):

    def test_told(self):
        self.assertEqual(stands_list(((1, 1), 0, 1, 1, 1)), [(None, 0)])
        self.assertEqual(stands_list(((1, 1), 1, 3, 0, 2)), [(None, 0), (1, 1), (1, 2), (0, 1)])
        self.assertEqual(stands_list(((1, 2, 3), 2, 1, 0, 3)), [(None, 0), (0, 1), (0, 2)])
        self.assertEqual(stands_list(((1, 2, 3), 0, 3, 2, 1)), [(None, 0), (0, 1), (0, 2)])
        self.assertEqual(len(stands_list(((1, 1), 0, 6, 1, 6))), 11)

    def test_all_that_rows_come_to(self):
        for match in MATCHES:
            die, sign, k, other, length = match
            stands = stands_list(match)
            self.assertEqual(len(stands), k + length - 1)
            self.assertEqual(stands[0], (None, 0))
            self.assertEqual(stands[1:k], [(sign, many) for many in range(1, k)])
            self.assertEqual(stands[k:], [(other, many) for many in range(1, length)])

    def test_against_short_rows(self):
        for match in SOME:
            if match[2] + match[4] <= 6:
                met = {stand_of(match, row) for row in short_rows(5, len(match[0]))
                       if who_first(row, *match[1:]) is None}
                self.assertEqual(met | {(None, 0)}, set(stands_list(match)), match)


class SharesTest(unittest.TestCase):

    def test_against_equations(self):
        for match in MATCHES:
            wanted = solved_at_stands(match, 1, 0, 0)
            paper = share_paper(match)
            self.assertEqual(paper, tuple([as_share(wanted[stand]) for stand in stands_list(match)]), match)
            self.assertEqual(first_share(match), as_share(wanted[(None, 0)]), match)
            self.assertIs(paper_good(match, paper), True)
            self.assertIs(type(paper), tuple)
            for share in paper:
                self.assertIs(share_good(share), True)
            mean = solved_at_stands(match, 0, 0, 1)[(None, 0)]
            self.assertEqual(mean_throws(match), as_share(mean), match)
            self.assertIs(share_good(mean_throws(match)), True)

    def test_told(self):
        self.assertEqual(share_paper(((1, 1), 0, 1, 1, 1)), ((1, 2),))
        self.assertEqual(first_share(((1, 2), 0, 1, 1, 1)), (1, 3))
        self.assertEqual(first_share(((1, 2, 3), 0, 1, 1, 1)), (1, 3))
        self.assertEqual(first_share(((1, 1), 0, 2, 1, 1)), (1, 4))
        self.assertEqual(share_paper(((1, 1), 0, 2, 1, 2)), ((1, 2), (2, 3), (1, 3)))
        self.assertEqual(share_paper(((1, 1), 0, 2, 1, 1)), ((1, 4), (1, 2)))
        self.assertEqual(share_paper(((1, 1), 1, 1, 0, 2)), ((3, 4), (1, 2)))
        self.assertEqual(share_paper(((1, 1, 1), 0, 2, 2, 1)), ((1, 5), (2, 5)))
        self.assertEqual(mean_throws(((1, 1), 0, 1, 1, 1)), (1, 1))
        self.assertEqual(mean_throws(((1, 1), 0, 2, 1, 2)), (3, 1))
        self.assertEqual(mean_throws(((1, 1, 1), 0, 1, 1, 1)), (3, 2))
        self.assertEqual(mean_throws(((1, 1), 0, 6, 1, 6)), (63, 1))

    def test_first_runs_against_all_rows(self):
        for match in MATCHES:
            die, sign, k, other, length = match
            for n in range(7 if len(die) == 2 else 5):
                shares = {sign: Fraction(0), other: Fraction(0), None: Fraction(0)}
                for row in itertools.product(range(len(die)), repeat=n):
                    shares[who_first(row, sign, k, other, length)] += weight_of(row, die_shares(die))
                wanted = tuple([as_share(shares[who]) for who in (sign, other, None)])
                self.assertEqual(shares_by(match, n), wanted, (match, n))

    def test_first_runs_up_to_thirty_throws(self):
        for match in SOME:
            for n in (7, 12, 29, 30):
                told = shares_by(match, n)
                self.assertEqual(told, played(match, n), (match, n))
                self.assertIs(type(told), tuple)
                for share in told:
                    self.assertIs(share_good(share), True)

    def test_told_shares_by(self):
        for match in MATCHES:
            self.assertEqual(shares_by(match, 0), ((0, 1), (0, 1), (1, 1)))
        self.assertEqual(shares_by(((1, 2), 0, 1, 1, 1), 1), ((1, 3), (2, 3), (0, 1)))
        self.assertEqual(shares_by(((1, 2), 0, 1, 1, 1), 30), ((1, 3), (2, 3), (0, 1)))
        self.assertEqual(shares_by(((1, 2, 3), 1, 1, 0, 1), 2), ((1, 2), (1, 4), (1, 4)))
        self.assertEqual(shares_by(((1, 1), 0, 2, 1, 2), 30), ((2 ** 29 - 1, 2 ** 30), (2 ** 29 - 1, 2 ** 30),
                                                               (1, 2 ** 29)))
        self.assertEqual(shares_by(((1, 1), 0, 6, 1, 6), 6), ((1, 64), (1, 64), (31, 32)))


class PaperGoodTest(unittest.TestCase):

    def test_the_one_paper(self):
        for match in SOME:
            paper = share_paper(match)
            self.assertIs(paper_good(match, paper), True)
            for wrong in [list(paper), paper[1:], paper[:-1], paper + ((0, 1),), ((1, 1),) + paper, paper + paper,
                          (), (paper,)]:
                self.assertIs(paper_good(match, wrong), False)
            for at, (top, bottom) in enumerate(paper):
                for other in [(top + bottom, bottom), (bottom - top, bottom), (2 * top, 2 * bottom), (-top, bottom),
                              (-top, -bottom), [top, bottom], (top, bottom, 1), (top,), top, None, True, "1/2",
                              (0, 1), (1, 1), (top * FORTY_FIGURES, bottom * FORTY_FIGURES)]:
                    handed = paper[:at] + (other,) + paper[at + 1:]
                    self.assertIs(paper_good(match, handed), paper_by_the_words(match, handed), (match, handed))

    def test_one_thing_otherwise(self):
        for match in [((1, 1), 0, 1, 1, 1), ((1, 1), 0, 2, 1, 2), ((1, 2, 3), 2, 3, 0, 2), ((9, 1), 1, 1, 0, 4)]:
            paper = share_paper(match)
            good_as_by_the_words(self, lambda thing: paper_good(match, thing),
                                 lambda thing: paper_by_the_words(match, thing), list(otherwise(paper)) + [paper])

    def test_papers_of_others(self):
        papers = {match: share_paper(match) for match in SOME}
        for match in SOME:
            for paper in papers.values():
                self.assertIs(paper_good(match, paper), papers[match] == paper)

    def test_other_things(self):
        for match in [((1, 1), 0, 1, 1, 1), ((1, 1), 0, 2, 1, 2), ((1, 2, 3), 2, 3, 0, 2)]:
            many = len(stands_list(match))
            things = [((0, 1),) * many, ((1, 1),) * many, ((1, 0),) * many, ((FORTY_FIGURES, 1),) * many,
                      ((2, 4),) * many, ((True, 2),) * many]
            for thing in OTHER_THINGS + NO_ROWS + NO_MATCHES + things:
                self.assertIs(paper_good(match, thing), False, thing)


class RefusalsTest(unittest.TestCase):

    def test_each_place(self):
        for match in [((1, 1), 0, 2, 1, 2), ((1, 2, 3), 2, 6, 0, 1)]:
            for function in (stands_list, first_share, share_paper, mean_throws):
                refused_at_each_place(self, function, (match,), [(NoLine, NO_MATCHES)])
            refused_at_each_place(self, shares_by, (match, 3),
                                  [(NoLine, NO_MATCHES), (NoNumber, NO_NUMBERS + [31, 32, 60])])
            in_range_else_refused(self, shares_by, (match, 3), 1, 0, 30)

    def test_matches_with_one_thing_otherwise(self):
        for thing in otherwise(((1, 2, 3), 0, 2, 1, 3)):
            if not match_by_the_words(thing):
                for function in (stands_list, first_share, share_paper, mean_throws):
                    refused_with(self, NoLine, function, thing)
                refused_with(self, NoLine, shares_by, thing, None)
                refused_with(self, NoLine, paper_good, thing, None)

    def test_paper_good(self):
        for thing in [None, (), ((1, 2),), share_paper(((1, 1), 0, 2, 1, 2))]:
            for match in NO_MATCHES:
                refused_with(self, NoLine, paper_good, match, thing)


class OwnAnswersTest(unittest.TestCase):

    def test_lists_are_the_asker_s_own(self):
        for match in SOME:
            own_list(self, stands_list, match)

    def test_same_answer_whatever_was_asked_in_between(self):
        questions = [(function, match) for function in (stands_list, first_share, share_paper, mean_throws)
                     for match in MATCHES]
        questions += [(shares_by, match, n) for match in SOME for n in (0, 5, 30)]
        asked_again(self, questions, [(NoLine, first_share, ((1, 1), 0, 2, 0, 2)), (NoLine, shares_by, None, 31),
                                      (NoNumber, shares_by, SOME[0], 31)])


class WhatFollowsTest(unittest.TestCase):
    """What 7.3 and 7.5 tell over several functions together."""

    def test_exchanged_they_come_to_1(self):
        for match in MATCHES:
            die, sign, k, other, length = match
            turned = (die, other, length, sign, k)
            self.assertEqual(as_fraction(first_share(match)) + as_fraction(first_share(turned)), 1)
            self.assertEqual(mean_throws(match), mean_throws(turned))
            one, two, none = shares_by(match, 9)
            self.assertEqual(shares_by(turned, 9), (two, one, none))
            by_stands = dict(zip(stands_list(turned), share_paper(turned)))
            for stand, share in zip(stands_list(match), share_paper(match)):
                self.assertEqual(as_fraction(share) + as_fraction(by_stands[stand]), 1)

    def test_a_longer_run_comes_first_with_no_greater_share(self):
        for die, sign, other in SIDES:
            for length in LENGTHS:
                shares = [as_fraction(first_share((die, sign, k, other, length))) for k in LENGTHS]
                self.assertEqual(shares, sorted(shares, reverse=True))

    def test_with_more_throws_nearer(self):
        for match in SOME:
            last = as_fraction(first_share(match))
            away, left = [], []
            for n in range(31):
                one, two, none = [as_fraction(share) for share in shares_by(match, n)]
                self.assertEqual(one + two + none, 1)
                self.assertTrue(one <= last <= one + none)
                self.assertTrue(two <= 1 - last)
                away.append(last - one)
                left.append(none)
            self.assertEqual(away, sorted(away, reverse=True))
            self.assertEqual(left, sorted(left, reverse=True))
            self.assertLess(away[30], away[0])

    def test_with_runs_alone(self):
        for match in MATCHES:
            die, sign, k, other, length = match
            ones, others = [as_fraction(mean_first(*match[:3])), as_fraction(mean_first(die, other, length))]
            self.assertLess(as_fraction(mean_throws(match)), min(ones, others))
            self.assertEqual(first_share(match), as_share(others / (ones + others)))
            for n in (1, 6, 30):
                one, two, none = [as_fraction(share) for share in shares_by(match, n)]
                self.assertLessEqual(one, as_fraction(within_share(die, sign, k, n)))
                self.assertLessEqual(two, as_fraction(within_share(die, other, length, n)))


if __name__ == "__main__":
    unittest.main()
