"""What the document says over several stages [0.1 to 0.5; 1.5, 2.5, 3.5, 4.5, 5.5, 6.5, 7.5, 8.5, 9.5, 10.4]."""

import importlib
import itertools
import math
import unittest

from tests.helper import asked_again, greatest, refused_with, runs_by_the_words
from tests.reference import as_fraction, as_share
from throwruns import bounds, comings, counts, desk, errors, machines, matches, orderly, rings, rows, shared, texts

DICE = [(1, 1), (1, 2), (9, 1), (1, 1, 1), (1, 2, 3), (9, 9, 9)]
ASKED = [(die, sign) for die in DICE for sign in range(len(die))]

INTERFACE = {
    "rows": "die_good row_good runs_of longest longest_any ring_runs ring_longest",
    "shared": "share_upto share_just any_upto share_table mean_longest mean_runs",
    "machines": "machine_good stands_of takes taken_many taken_share run_machine no_run both either contrary least "
                "parting",
    "matches": "match_good stands_list first_share share_paper paper_good mean_throws shares_by",
    "orderly": "free_many free_nth free_rank free_next free_begun next_signs free_all",
    "counts": "rows_upto rows_just alike_upto alike_just rows_table alike_table rows_by_runs runs_total rows_with",
    "rings": "ring_upto ring_just ring_table ring_share least_turn turn_to kinds_many kinds_list",
    "comings": "comes_share within_share comes_list half_by mean_first waits_list waits_good",
    "bounds": "stepped factors_of above_good below_good above_at below_at above_paper below_paper closer",
    "texts": "throws_shown throws_read",
    "desk": "Desk",
    "errors": "ThrowError NoDie NoRow NoNumber NoLine NoMachine NoPaper NoText TooGreat",
}


class InterfaceTest(unittest.TestCase):

    def test_all_is_there(self):
        for name, names in INTERFACE.items():
            module = importlib.import_module(f"throwruns.{name}")
            for listed in names.split():
                self.assertTrue(callable(getattr(module, listed)), (name, listed))

    def test_refusals_are_value_errors(self):
        for function, arguments, error in [
                (rows.runs_of, (None,), errors.NoRow), (counts.rows_upto, (4, 0, 0), errors.NoNumber),
                (shared.share_upto, (None, 0, 0, 0), errors.NoDie), (machines.least, (None,), errors.NoMachine),
                (matches.first_share, (None,), errors.NoLine), (bounds.stepped, ((1, 1), 0, 1, ()), errors.NoPaper),
                (texts.throws_read, (None,), errors.NoText), (orderly.free_all, (3, 20, 20), errors.TooGreat),
                (desk.Desk().say, (None,), errors.NoLine)]:
            refusal = refused_with(self, error, function, *arguments)
            self.assertEqual(error.__mro__[1:3], (errors.ThrowError, ValueError))
            self.assertIsInstance(refusal, ValueError)


class RunsAndCountsTest(unittest.TestCase):

    def test_rows_with_have_this_longest_run(self):
        for m, sign, n, k in [(2, 0, 6, 2), (3, 2, 5, 3), (2, 1, 20, 19), (3, 1, 20, 20)]:
            listed = counts.rows_with(m, sign, n, k)
            self.assertEqual(len(listed), counts.rows_just(m, n, k))
            for row in listed:
                self.assertEqual(rows.longest(row, sign), k)

    def test_tables(self):
        for m in (2, 3):
            for n in (0, 1, 2, 7, 30):
                for table in (counts.rows_table(m, n), counts.alike_table(m, n), rings.ring_table(m, n),
                              counts.rows_by_runs(m, n)):
                    self.assertEqual(sum(table), m ** n)
                for j in range(1, n + 1):
                    wanted = m * (m - 1) ** (j - 1) * math.comb(n - 1, j - 1)
                    self.assertEqual(counts.rows_by_runs(m, n)[j], wanted)

    def test_two_signs_alike_and_one(self):
        for n in range(1, 41):
            for k in (1, 2, 5, 39, 40):
                self.assertEqual(counts.alike_upto(2, n, k), 2 * counts.rows_upto(2, n - 1, k - 1))

    def test_even_dice_have_the_shares_of_the_counts(self):
        for m in (2, 3):
            die = (4,) * m
            for n in (0, 1, 9, 30):
                for k in (0, 1, 4, 30):
                    for sign in range(m):
                        self.assertEqual(as_fraction(shared.share_upto(die, sign, n, k)) * m ** n,
                                         counts.rows_upto(m, n, k))
                        self.assertEqual(as_fraction(rings.ring_share(die, sign, n, k)) * m ** n,
                                         rings.ring_upto(m, n, k))
                    self.assertEqual(as_fraction(shared.any_upto(die, n, k)) * m ** n, counts.alike_upto(m, n, k))

    def test_rings_and_rows(self):
        for row in itertools.product(range(3), repeat=6):
            for sign in range(3):
                self.assertGreaterEqual(rings_longest(row, sign), rows.longest(row, sign))
            self.assertEqual(rows.ring_longest(rings.least_turn(row), 0), rows.ring_longest(row, 0))
        for die, sign in ASKED:
            for n in (0, 1, 5, 30):
                for k in (0, 1, 3, 30):
                    self.assertLessEqual(as_fraction(rings.ring_share(die, sign, n, k)),
                                         as_fraction(shared.share_upto(die, sign, n, k)))


def rings_longest(row, sign):
    """The longest ring run of a sign, by the runs of the row written twice."""
    if set(row) == {sign}:
        return len(row)
    return greatest(runs_by_the_words(row + row), (sign,))


class RunsForEverTest(unittest.TestCase):
    """The share with which no run of k stands, told in four ways, and bounded."""

    def test_no_run_within_n_throws(self):
        for die, sign in ASKED:
            for k in (1, 2, 5, 8):
                machine = machines.no_run(len(die), sign, k)
                above, below = bounds.above_paper(die, sign, k), bounds.below_paper(die, sign, k)
                for n in (0, 1, k, 12, 40):
                    left = shared.share_upto(die, sign, n, k - 1)
                    self.assertEqual(machines.taken_share(machine, die, n), left)
                    self.assertEqual(comings.within_share(die, sign, k, n), as_share(1 - as_fraction(left)))
                    self.assertLessEqual(as_fraction(left), as_fraction(bounds.above_at(die, sign, k, above, n)))
                    self.assertGreaterEqual(as_fraction(left), as_fraction(bounds.below_at(die, sign, k, below, n)))

    def test_matches_and_machines(self):
        for match in [((1, 1), 0, 2, 1, 3), ((1, 2, 3), 2, 3, 0, 1), ((9, 1), 1, 1, 0, 5), ((1, 1, 1), 0, 2, 1, 2)]:
            die, sign, k, other, length = match
            neither = machines.both(machines.no_run(len(die), sign, k), machines.no_run(len(die), other, length))
            for n in (0, 1, 5, 30):
                self.assertEqual(machines.taken_share(neither, die, n), matches.shares_by(match, n)[2])

    def test_waits_are_weights(self):
        for die, sign in ASKED:
            for k in (1, 4, 8):
                waits = comings.waits_list(die, sign, k)
                after = bounds.stepped(die, sign, k, tuple(waits))
                self.assertEqual([as_fraction(share) + 1 for share in after], [as_fraction(share) for share in waits])
                self.assertIs(comings.waits_good(die, sign, k, waits), True)

    def test_free_rows_and_machines(self):
        for m, k in [(2, 2), (2, 3), (3, 2)]:
            machine = machines.no_run(m, 0, k)
            for sign in range(1, m):
                machine = machines.least(machines.both(machine, machines.no_run(m, sign, k)))
            for n in (0, 1, 6, 20):
                self.assertEqual(machines.taken_many(machine, n), orderly.free_many(m, n, k))
            for row in orderly.free_all(m, 6, k):
                self.assertIs(machines.takes(machine, row), True)
                self.assertLess(rows.longest_any(row), k)


class AnswersAgainTest(unittest.TestCase):

    def test_whatever_was_asked_in_between(self):
        kept = desk.Desk()
        kept.say("throw 1")
        questions = [(rows.runs_of, (0, 0, 1)), (counts.rows_table, 3, 9), (shared.share_table, (1, 2), 0, 9),
                     (rings.kinds_list, 2, 6, 3), (machines.stands_of, machines.run_machine(2, 0, 3), (0, 0, 1)),
                     (comings.waits_list, (1, 2), 1, 4), (comings.comes_list, (1, 2), 1, 4, 30),
                     (matches.share_paper, ((1, 2), 0, 3, 1, 4)), (matches.stands_list, ((1, 2), 0, 3, 1, 4)),
                     (bounds.above_paper, (1, 2), 0, 4), (orderly.free_all, 2, 6, 3),
                     (orderly.next_signs, 3, 6, 3, (0, 0)),
                     (texts.throws_read, "die 1 2\nrow 0 1"), (kept.say, "shown"), (kept.say, "upto 1 0")]
        asked_again(self, questions, [
            (errors.NoRow, rows.runs_of, [0]), (errors.TooGreat, rings.kinds_list, 3, 12, 12),
            (errors.NoPaper, bounds.closer, (1, 2), 0, 4, None), (errors.NoText, texts.throws_read, "die"),
            (errors.NoNumber, kept.say, "throw 2"), (errors.NoLine, kept.say, "drop 1")])

    def test_what_was_told_may_be_handed_in_again(self):
        die, row = texts.throws_read("die 1 2 3\nrow 2 0 1 1")
        self.assertEqual(texts.throws_shown(die, rings.least_turn(row)), "die 1 2 3\nrow 0 1 1 2")
        for free in orderly.free_all(3, 4, 2):
            self.assertIs(rows.row_good(free), True)
            self.assertEqual(texts.throws_read(texts.throws_shown(die, free)), (die, free))
            self.assertEqual(orderly.free_begun(3, 4, 2, free), 1)
        for listed in counts.rows_with(3, 1, 4, 3):
            self.assertEqual(rings.turn_to(listed, listed), 0)
            self.assertIs(machines.takes(machines.run_machine(3, 1, 3), listed), True)


if __name__ == "__main__":
    unittest.main()
