"""Machines with few stands [5.1 to 5.5, with 0.2 to 0.5]."""

from fractions import Fraction
import unittest

from tests.helper import (FORTY_FIGURES, NO_DICE, NO_NUMBERS, NO_ROWS, OTHER_THINGS, good_as_by_the_words,
                          asked_again, greatest, in_range_else_refused, otherwise, own_list,
                          refused_at_each_place, refused_with, runs_by_the_words, short_rows)
from tests.machinery import (end_of, machine_by_the_words, machine_over, picked_machines, ring_of_stands,
                             small_machines, taken_by_the_words, together_many, unlike_stands)
from tests.reference import as_share, die_shares, weight_of
from throwruns.counts import rows_upto
from throwruns.errors import NoDie, NoMachine, NoNumber, NoRow, TooGreat
from throwruns.machines import (both, contrary, either, least, machine_good, no_run, parting, run_machine,
                                stands_of, taken_many, taken_share, takes)
from throwruns.shared import share_upto
from throwruns.shares import share_good

ONE_STAND = [(((0, 0),), ()), (((0, 0),), (0,)), (((0, 0, 0),), ()), (((0, 0, 0),), (0,))]
SMALL = ONE_STAND + small_machines(2, 2) + small_machines(3, 2)[::5]
# The first three stands tell whether there were throws and which was the last one; others are not come to.
LAST = (((1, 2), (1, 2), (1, 2)), (2,))
LAST_OF_THREE = (((1, 2, 3), (1, 2, 3), (1, 2, 3), (1, 2, 3), (0, 0, 4)), (0, 3, 4))
TWELVE = [ring_of_stands(2, 12, (0,), (11,)), ring_of_stands(3, 12, (1, 2), range(12)),
          ring_of_stands(2, 12, (0, 1), ())] + picked_machines(5, 2, 12, 4) + picked_machines(6, 3, 12, 4)
PICKED = [machine for signs in (2, 3) for stands in (3, 4, 5, 7)
          for machine in picked_machines(10 * signs + stands, signs, stands, 6)]
MACHINES = ONE_STAND + [LAST, LAST_OF_THREE] + TWELVE + PICKED
DICE = {2: [(1, 1), (1, 2), (9, 1), (4, 6)], 3: [(1, 1, 1), (1, 2, 3), (9, 9, 9), (6, 3, 3)]}

NO_MACHINES = OTHER_THINGS + [
    (), (1, 1), (1, 2, 3), (0, 1), LAST[0], LAST[1], list(LAST), LAST + ((),), LAST[:1], (LAST,), ((), ()),
    (((),), ()), (((0,),), ()), (((0, 0, 0, 0),), ()), (((0, 0),) * 13, ()), (((0, 0), (0, 0, 0)), ()),
    (((0, 0, 0), (0, 0)), ()), (((0, 1),), ()), (((0, -1),), ()), (((0, True),), ()), (((0, False),), ()),
    (((0, 0),), (1,)), (((0, 0),), (-1,)), (((0, 0),), (0, 0)), (((0, 0),), (False,)), (((0, 0),), [0]),
    (((0, 0),), None), (((0, 0),), 0), ([(0, 0)], (0,)), (([0, 0],), (0,)), ("00", "0"), {0: LAST},
    (((0, 0), (1, 1)), (1, 0)), (((0, 0), (1, 1)), (0, 1, 1)), (((0, 0), (2, 1)), (1,)), (((0, "0"),), ()),
    (((0, FORTY_FIGURES),), ()), (((0, 0),), (FORTY_FIGURES,)), (((0, None),), ()), (((0, 0),), (None,))]
NO_TAKEN_NUMBER = NO_NUMBERS + [41, 42, 100]


def signs_of(machine):
    """How many signs a machine is for."""
    return len(machine[0][0])


def pairs_of(machines):
    """All pairs of machines for as many signs, each way round."""
    return [(one, other) for one in machines for other in machines if signs_of(one) == signs_of(other)]


def weight_behind(machine, weights, n):
    """The weight of the rows of n throws taken, reckoned from the last throw to the first."""
    behind = [1 if stand in machine[1] else 0 for stand in range(len(machine[0]))]
    for throw in range(n):
        behind = [sum([weight * behind[stand] for weight, stand in zip(weights, row)]) for row in machine[0]]
    return behind[0]


class GoodTest(unittest.TestCase):

    def test_good_machines(self):
        for machine in SMALL + MACHINES:
            self.assertIs(machine_good(machine), True, machine)

    def test_other_things(self):
        for thing in NO_MACHINES + NO_ROWS + NO_DICE:
            self.assertIs(machine_good(thing), False, thing)

    def test_one_thing_otherwise(self):
        for machine in ONE_STAND + SMALL[20:24] + [LAST, LAST_OF_THREE] + TWELVE[:2]:
            good_as_by_the_words(self, machine_good, machine_by_the_words, otherwise(machine))

    def test_edges(self):
        for signs in (2, 3):
            for stands in range(1, 13):
                steps = ((stands - 1,) * signs,) * stands
                for good in [(), (stands - 1,), tuple(range(stands))]:
                    self.assertIs(machine_good((steps, good)), True)
                for wrong in [(steps, (stands,)), (steps, tuple(range(stands + 1))), (steps[1:], ()),
                              (steps[:-1] + ((stands,) * signs,), ()), (steps + ((0,) * (5 - signs),), ())]:
                    self.assertIs(machine_good(wrong), False, wrong)
            self.assertIs(machine_good((((0,) * signs,) * 13, ())), False)
        for signs in (0, 1, 4, 5):
            self.assertIs(machine_good((((0,) * signs,) * 2, ())), False)
            self.assertIs(machine_good((((0,) * signs,), (0,))), False)


class ReadingTest(unittest.TestCase):

    def test_against_all_short_rows(self):
        for machine in SMALL[::3] + MACHINES:
            for row in short_rows(5 if signs_of(machine) == 2 else 4, signs_of(machine)):
                wanted = [end_of(machine, row[:many]) for many in range(len(row) + 1)]
                self.assertEqual(stands_of(machine, row), wanted)
                self.assertIs(takes(machine, row), wanted[-1] in machine[1])

    def test_told(self):
        self.assertEqual(stands_of(LAST, ()), [0])
        self.assertEqual(stands_of(LAST, (1, 0, 0, 1)), [0, 2, 1, 1, 2])
        self.assertEqual([takes(LAST, row) for row in [(), (0,), (1,), (1, 0), (0, 1)]],
                         [False, False, True, False, True])
        self.assertEqual(stands_of(LAST_OF_THREE, (2, 2, 0)), [0, 3, 3, 1])
        self.assertIs(takes(LAST_OF_THREE, ()), True)

    def test_thirty_signs(self):
        for many in (20, 21, 29, 30):
            self.assertEqual(stands_of(TWELVE[0], (0,) * many), [at % 12 for at in range(many + 1)])
            self.assertIs(takes(TWELVE[0], (0,) * many), many % 12 == 11)
        self.assertIs(takes(TWELVE[0], (0, 1) * 11 + (1,) * 8), True)
        for many in (31, 32, 1000):
            for function in (stands_of, takes):
                refused_with(self, NoRow, function, TWELVE[0], (0,) * many)

    def test_how_many(self):
        for machine in SMALL + MACHINES:
            signs = signs_of(machine)
            for n in range(6 if signs == 2 else 4):
                rows = [row for row in short_rows(n, signs) if len(row) == n and taken_by_the_words(machine, row)]
                self.assertEqual(taken_many(machine, n), len(rows), (machine, n))
                for die in DICE[signs][1:3]:
                    wanted = sum([weight_of(row, die) for row in rows])
                    self.assertEqual(taken_share(machine, die, n), as_share(Fraction(wanted, sum(die) ** n)))

    def test_how_many_up_to_forty(self):
        for machine in MACHINES:
            signs = signs_of(machine)
            for n in (6, 12, 25, 39, 40):
                self.assertEqual(taken_many(machine, n), weight_behind(machine, [1] * signs, n))
                for die in DICE[signs]:
                    told = taken_share(machine, die, n)
                    self.assertEqual(told, as_share(weight_behind(machine, die_shares(die), n)))
                    self.assertIs(share_good(told), True)

    def test_told_numbers(self):
        self.assertEqual([taken_many(LAST, n) for n in (0, 1, 2, 40)], [0, 1, 2, 2 ** 39])
        self.assertEqual([taken_share(LAST, (1, 2), n) for n in (0, 1, 40)], [(0, 1), (2, 3), (2, 3)])
        for n in (0, 1, 40):
            self.assertEqual([taken_many(machine, n) for machine in ONE_STAND], [0, 2 ** n, 0, 3 ** n])
            self.assertEqual(taken_share(ONE_STAND[0], (1, 2), n), (0, 1))
            self.assertEqual(taken_share(ONE_STAND[3], (1, 2, 9), n), (1, 1))
        self.assertEqual(taken_many(TWELVE[2], 40), 0)
        self.assertEqual(taken_many(TWELVE[1], 40), 3 ** 40)
        self.assertEqual(taken_share(TWELVE[0], (1, 1), 12), (3, 1024))


class RunMachineTest(unittest.TestCase):

    def test_told(self):
        self.assertEqual(run_machine(2, 0, 1), (((1, 0), (1, 1)), (1,)))
        self.assertEqual(no_run(2, 0, 1), (((1, 0), (1, 1)), (0,)))
        self.assertEqual(run_machine(2, 1, 2), (((0, 1), (0, 2), (2, 2)), (2,)))
        self.assertEqual(run_machine(3, 2, 2), (((0, 0, 1), (0, 0, 2), (2, 2, 2)), (2,)))
        self.assertEqual(no_run(3, 2, 2), (((0, 0, 1), (0, 0, 2), (2, 2, 2)), (0, 1)))

    def test_by_the_words(self):
        for m in (2, 3):
            rows = [(row, runs_by_the_words(row)) for row in short_rows(7 if m == 2 else 5, m)]
            for sign in range(m):
                for k in range(1, 12):
                    machine, others = run_machine(m, sign, k), no_run(m, sign, k)
                    self.assertIs(machine_by_the_words(machine), True)
                    self.assertEqual((len(machine[0]), signs_of(machine), machine[1]), (k + 1, m, (k,)))
                    self.assertEqual(others, (machine[0], tuple(range(k))))
                    for row, runs in rows:
                        there = greatest(runs, (sign,)) >= k
                        ending = runs[-1][2] if runs and runs[-1][0] == sign else 0
                        self.assertEqual(end_of(machine, row), k if there else ending, (row, k))
                        self.assertIs(takes(machine, row), there)
                        self.assertIs(takes(others, row), not there)

    def test_eleven(self):
        for m in (2, 3):
            for sign in range(m):
                machine, other = run_machine(m, sign, 11), (sign + 1) % m
                for row, stand in [((sign,) * 10, 10), ((sign,) * 11, 11), ((sign,) * 10 + (other,), 0),
                                   ((other,) + (sign,) * 11 + (other,), 11), ((sign,) * 30, 11),
                                   ((sign,) * 10 + (other,) + (sign,) * 10, 10)]:
                    self.assertEqual(stands_of(machine, row)[-1], stand)
                    self.assertIs(takes(no_run(m, sign, 11), row), stand < 11)

    def test_as_many_as_counted(self):
        for m in (2, 3):
            for sign in range(m):
                for k in (1, 2, 5, 11):
                    for n in (0, 1, 5, 11, 12, 40):
                        self.assertEqual(taken_many(no_run(m, sign, k), n), rows_upto(m, n, k - 1))
                        self.assertEqual(taken_many(run_machine(m, sign, k), n), m ** n - rows_upto(m, n, k - 1))
                        for die in DICE[m]:
                            self.assertEqual(taken_share(no_run(m, sign, k), die, n), share_upto(die, sign, n, k - 1))


class JoinedTest(unittest.TestCase):

    def check(self, one, other, most):
        """Check both and either against all rows of at most so many throws, which come to all pairs."""
        for function, wanted in [(both, all), (either, any)]:
            told = function(one, other)
            self.assertEqual(told, machine_over([one, other], most, wanted), (one, other))
            self.assertIs(machine_by_the_words(told), True)
            for row in short_rows(4, signs_of(one)):
                answers = [taken_by_the_words(machine, row) for machine in (one, other)]
                self.assertIs(takes(told, row), wanted(answers))

    def test_small_machines(self):
        machines = ONE_STAND + small_machines(2, 2)[::3] + small_machines(3, 2)[::29]
        for one, other in pairs_of(machines):
            self.check(one, other, 4)

    def test_greater_machines(self):
        checked = 0
        for one, other in pairs_of([LAST, LAST_OF_THREE] + PICKED):
            if together_many(one, other) <= 8:
                self.check(one, other, 8)
                checked += 1
        self.assertGreater(checked, 20)

    def test_order_of_the_stands(self):
        # Rows (), (0,), (1,), (0, 0), .. come to them in this order.
        one, other = run_machine(2, 0, 2), run_machine(2, 1, 2)
        steps = ((1, 2), (3, 2), (1, 4), (3, 5), (6, 4), (3, 7), (7, 4), (7, 7))
        self.assertEqual(both(one, other), (steps, (7,)))
        self.assertEqual(either(one, other), (steps, (3, 4, 5, 6, 7)))
        crossed = (((2, 1), (1, 0), (0, 2)), (1,))
        self.assertEqual(both(crossed, crossed), (((1, 2), (0, 1), (2, 0)), (2,)))
        self.assertEqual(either(crossed, ONE_STAND[0]), (((1, 2), (0, 1), (2, 0)), (2,)))
        self.assertEqual(both(crossed, ONE_STAND[0]), (((1, 2), (0, 1), (2, 0)), ()))
        crossed = (((3, 1, 2), (0, 0, 0), (1, 1, 1), (2, 2, 2)), (0, 3))
        self.assertEqual(either(crossed, crossed), (((1, 2, 3), (3, 3, 3), (0, 0, 0), (2, 2, 2)), (0, 1)))

    def test_twelve_pairs_and_more(self):
        for one, other, many in [
                (ring_of_stands(2, 3, (0, 1), (1,)), ring_of_stands(2, 4, (0, 1), (3,)), 12),
                (ring_of_stands(3, 3, (0,), (1,)), ring_of_stands(3, 4, (2,), (3,)), 12),
                (run_machine(2, 0, 11), run_machine(2, 0, 11), 12), (TWELVE[0], ONE_STAND[1], 12),
                (run_machine(2, 0, 6), run_machine(2, 0, 5), 12), (TWELVE[0], TWELVE[0], 12)]:
            self.assertEqual(together_many(one, other), many)
            for first, second in [(one, other), (other, one)]:
                joined = both(first, second)
                self.assertEqual((len(joined[0]), len(either(first, second)[0])), (12, 12))
                self.assertEqual(joined[0], either(first, second)[0])
                for n in (0, 1, 11, 12, 13, 24, 30):
                    row = tuple([at // 3 % 2 for at in range(n)])
                    wanted = [taken_by_the_words(machine, row) for machine in (first, second)]
                    self.assertIs(takes(joined, row), all(wanted))
                    self.assertIs(takes(either(first, second), row), any(wanted))
        # A tail of one stand ahead of the ring makes thirteen pairs.
        tailed = (((1, 1), (2, 2), (3, 3), (1, 1)), (2,))
        for one, other, many in [
                (tailed, ring_of_stands(2, 4, (0, 1), (3,)), 13),
                (ring_of_stands(2, 2, (0, 1), ()), ring_of_stands(2, 7, (0, 1), (0,)), 14),
                (run_machine(2, 0, 7), run_machine(2, 0, 6), 14), (run_machine(2, 0, 11), run_machine(2, 1, 1), 24),
                (run_machine(3, 0, 11), run_machine(3, 1, 11), 44),
                (ring_of_stands(2, 12, (0,), ()), ring_of_stands(2, 12, (1,), ()), 144),
                (ring_of_stands(3, 12, (0, 1, 2), ()), ring_of_stands(3, 11, (0, 1, 2), ()), 132)]:
            self.assertEqual(together_many(one, other), many)
            for first, second in [(one, other), (other, one)]:
                for function in (both, either):
                    refusal = refused_with(self, TooGreat, function, first, second)
                    self.assertEqual((refusal.many, refusal.most), (many, 12))

    def test_only_pairs_come_to_count(self):
        # Twelve stands each, but two pairs.
        one = (((1, 1), (0, 0)) + ((0, 5),) * 10, (1, 7))
        other = (((1, 1), (0, 0)) + ((9, 5),) * 10, (0, 1, 7))
        self.assertEqual(both(one, other), (((1, 1), (0, 0)), (1,)))
        self.assertEqual(either(one, other), (((1, 1), (0, 0)), (0, 1)))

    def test_contrary(self):
        for machine in SMALL + MACHINES:
            told = contrary(machine)
            stands = range(len(machine[0]))
            self.assertEqual(told, (machine[0], tuple([stand for stand in stands if stand not in machine[1]])))
            self.assertEqual(contrary(told), machine)
            for row in short_rows(3, signs_of(machine)):
                self.assertIs(takes(told, row), not takes(machine, row))
        self.assertEqual(contrary(ONE_STAND[0]), ONE_STAND[1])
        self.assertEqual(contrary(TWELVE[1]), (TWELVE[1][0], ()))


class LeastTest(unittest.TestCase):

    def check(self, machine, most):
        """Check that least takes the same rows, has just the stands needed, in the order of 5.4."""
        told = least(machine)
        self.assertIs(machine_by_the_words(told), True)
        self.assertEqual(len(told[0]), unlike_stands(machine, most), machine)
        self.assertEqual(told, machine_over([told], most, all), machine)
        for row in short_rows(most, signs_of(machine)):
            self.assertIs(taken_by_the_words(told, row), taken_by_the_words(machine, row), machine)
        self.assertIsNone(parting(told, machine))
        self.assertEqual(least(told), told)

    def test_small_machines(self):
        for machine in SMALL + small_machines(2, 3)[::53]:
            self.check(machine, 4)

    def test_greater_machines(self):
        for machine in [LAST, LAST_OF_THREE] + PICKED:
            self.check(machine, 7 if signs_of(machine) == 2 else 6)
        for machine in TWELVE[3:7]:
            self.check(machine, 11)

    def test_told(self):
        self.assertEqual(least(LAST), (((0, 1), (0, 1)), (1,)))
        self.assertEqual(least(LAST_OF_THREE), (((1, 1, 0), (1, 1, 0)), (0,)))
        for machine in TWELVE[:1] + [run_machine(3, 1, 11), no_run(2, 0, 11)]:
            self.assertEqual(least(machine), machine)
        self.assertEqual(least(TWELVE[1]), ONE_STAND[3])
        self.assertEqual(least(TWELVE[2]), ONE_STAND[0])
        self.assertEqual(least(ring_of_stands(2, 12, (1,), (1, 5, 9))), ring_of_stands(2, 4, (1,), (1,)))
        self.assertEqual(least(ring_of_stands(2, 12, (1,), (1, 3, 5, 7, 9, 11))), ring_of_stands(2, 2, (1,), (1,)))
        # Stands told apart by a long row alone.
        line = tuple([(min(stand + 1, 11), min(stand + 1, 11)) for stand in range(12)])
        self.assertEqual(least((line, (11,))), (line, (11,)))
        self.assertEqual(least((line, (0, 11))), (line, (0, 11)))
        self.assertEqual(least((line, (10, 11))), (line[:10] + ((10, 10),), (10,)))
        self.assertEqual(least((((2, 1), (1, 1), (2, 2)), (1,))), (((1, 2), (1, 1), (2, 2)), (2,)))

    def test_alike_machines_have_the_same_least_one(self):
        for one, other in pairs_of(small_machines(2, 2) + ONE_STAND[:2] + [LAST] + PICKED[:12]):
            self.assertEqual(least(one) == least(other), parting(one, other) is None, (one, other))
        # The same machine with its stands numbered otherwise, and each stand twice.
        for machine in PICKED:
            many = len(machine[0])
            order = [0] + list(range(many - 1, 0, -1))
            place = {stand: at for at, stand in enumerate(order)}
            mixed = (tuple([tuple([place[to] for to in machine[0][stand]]) for stand in order]),
                     tuple(sorted([place[stand] for stand in machine[1]])))
            self.assertEqual(least(mixed), least(machine))
            if many <= 6:
                twice = (tuple([tuple([to + many for to in row]) for row in machine[0]]) + machine[0],
                         machine[1] + tuple([stand + many for stand in machine[1]]))
                self.assertEqual(least(twice), least(machine))


class PartingTest(unittest.TestCase):

    def test_first_row_by_the_words(self):
        for one, other in pairs_of(ONE_STAND + small_machines(2, 2)[::2] + small_machines(3, 2)[::31] + [LAST]):
            parted = [row for row in short_rows(4, signs_of(one))
                      if taken_by_the_words(one, row) != taken_by_the_words(other, row)]
            self.assertEqual(parting(one, other), parted[0] if parted else None, (one, other))

    def test_greater_machines(self):
        met = set()
        for one, other in pairs_of(PICKED + [LAST, LAST_OF_THREE]):
            told = parting(one, other)
            met.add(told)
            parted = [row for row in short_rows(4, signs_of(one))
                      if taken_by_the_words(one, row) != taken_by_the_words(other, row)]
            if parted:
                self.assertEqual(told, parted[0], (one, other))
            elif told is not None:
                self.assertGreater(len(told), 4)
        self.assertGreater(len(met), 5)

    def test_told(self):
        for machine in MACHINES:
            self.assertIsNone(parting(machine, machine))
            self.assertEqual(parting(machine, contrary(machine)), ())
        self.assertEqual(parting(run_machine(2, 0, 11), run_machine(2, 0, 10)), (0,) * 10)
        self.assertEqual(parting(run_machine(3, 2, 11), run_machine(3, 1, 11)), (1,) * 11)
        self.assertEqual(parting(run_machine(3, 2, 11), run_machine(3, 1, 10)), (1,) * 10)
        self.assertEqual(parting(run_machine(2, 1, 3), ONE_STAND[0]), (1, 1, 1))
        # The two take the same rows up to (1, 0), of two throws.
        self.assertEqual(parting((((1, 2), (1, 1), (3, 2), (3, 3)), (3,)), ONE_STAND[0]), (1, 0))

    def test_very_long_first_row(self):
        # Two rings of 12 and of 11 stands may go alike for 21 numbers of throws, from 0 to 20: not for longer.
        alike = list(range(22))
        for step in (11, 12):
            for at in range(21 - step):
                old, new = alike[at + step], alike[at]
                alike = [new if mark == old else mark for mark in alike]
        takers = [at for at in range(21) if alike[at] == alike[0]]
        one = ring_of_stands(2, 12, (0, 1), [at for at in takers if at < 12])
        other = ring_of_stands(2, 11, (0, 1), [at for at in takers if at < 11])
        parted = [n for n in range(31) if taken_by_the_words(one, (0,) * n) != taken_by_the_words(other, (0,) * n)]
        self.assertEqual(parted[0], 21)
        told = parting(one, other)
        self.assertEqual(told, (0,) * 21)
        # What was told may be handed in again.
        self.assertIsNot(takes(one, told), takes(other, told))
        self.assertEqual(parting(other, one), (0,) * 21)


class RefusalsTest(unittest.TestCase):

    def test_each_place(self):
        for machine, die in [(LAST, (1, 2)), (LAST_OF_THREE, (1, 2, 3)), (ONE_STAND[0], (9, 9))]:
            m = len(die)
            no_row = [thing for thing in NO_ROWS if thing not in ((0,) * 21, (1,) * 21)]
            no_row += [(m,), (0, m), (0,) * 31, (0, True), [0, 1], ((0,),)]
            no_die = NO_DICE + [(1,) * (5 - m), (1, 2, 3)[:5 - m]]
            for function in (stands_of, takes):
                refused_at_each_place(self, function, (machine, (0, 1)), [(NoMachine, NO_MACHINES), (NoRow, no_row)])
            refused_at_each_place(self, taken_many, (machine, 4),
                                  [(NoMachine, NO_MACHINES), (NoNumber, NO_TAKEN_NUMBER)])
            refused_at_each_place(self, taken_share, (machine, die, 4),
                                  [(NoMachine, NO_MACHINES), (NoDie, no_die), (NoNumber, NO_TAKEN_NUMBER)])
            for function in (contrary, least):
                refused_at_each_place(self, function, (machine,), [(NoMachine, NO_MACHINES)])
            for function in (both, either, parting):
                refused_at_each_place(self, function, (machine, machine),
                                      [(NoMachine, NO_MACHINES), (NoMachine, NO_MACHINES)])
                for other in [other for other in MACHINES if signs_of(other) != m]:
                    refused_with(self, NoMachine, function, machine, other)
                    refused_with(self, NoMachine, function, other, machine)

    def test_machines_with_one_thing_otherwise(self):
        for machine in (LAST, run_machine(3, 1, 2)):
            for thing in otherwise(machine):
                if not machine_by_the_words(thing):
                    for function in (contrary, least):
                        refused_with(self, NoMachine, function, thing)
                    refused_with(self, NoMachine, takes, thing, None)
                    refused_with(self, NoMachine, parting, machine, thing)
                    refused_with(self, NoMachine, either, thing, machine)

    def test_numbers(self):
        for m in (2, 3):
            wrong = [(NoNumber, NO_NUMBERS + [0, 1, 4, 5]), (NoNumber, NO_NUMBERS + [m, m + 1]),
                     (NoNumber, NO_NUMBERS + [0, 12, 13, 40])]
            for function in (run_machine, no_run):
                refused_at_each_place(self, function, (m, 1, 3), wrong)
                in_range_else_refused(self, function, (m, 1, 3), 0, 2, 3)
                in_range_else_refused(self, function, (m, 1, 3), 1, 0, m - 1)
                in_range_else_refused(self, function, (m, 1, 3), 2, 1, 11)
        in_range_else_refused(self, taken_many, (LAST, 3), 1, 0, 40)
        in_range_else_refused(self, taken_share, (LAST, (1, 2), 3), 2, 0, 40)

    def test_no_machine_goes_ahead_of_too_great(self):
        for thing in NO_MACHINES + [TWELVE[1], run_machine(3, 0, 11)]:
            for function in (both, either):
                refused_with(self, NoMachine, function, run_machine(2, 0, 11), thing)
                refused_with(self, NoMachine, function, thing, run_machine(2, 0, 11))

    def test_rows_that_are_none_of_the_machine_s(self):
        # A sign 2 is none of a machine for two signs, whatever comes ahead of it.
        for row in [(2,), (0, 1, 2), (2, 0), (0,) * 29 + (2,)]:
            refused_with(self, NoRow, takes, LAST, row)
            self.assertIs(takes(LAST_OF_THREE, row), row[-1] == 2)


class OwnAnswersTest(unittest.TestCase):

    def test_lists_are_the_asker_s_own(self):
        for machine in MACHINES:
            for row in [(), (1,), (0, 1, 1)]:
                own_list(self, stands_of, machine, row)

    def test_same_answer_whatever_was_asked_in_between(self):
        questions = [(function, machine) for function in (contrary, least) for machine in MACHINES]
        questions += [(stands_of, machine, (1, 0, 0)) for machine in MACHINES]
        questions += [(taken_many, machine, n) for machine in MACHINES for n in (0, 7, 40)]
        questions += [(taken_share, machine, DICE[signs_of(machine)][1], 40) for machine in MACHINES]
        questions += [(function, m, 1, k) for function in (run_machine, no_run) for m in (2, 3) for k in (1, 11)]
        questions += [(function, one, other) for function in (both, either, parting)
                      for one, other in pairs_of(ONE_STAND + [LAST, LAST_OF_THREE])]
        asked_again(self, questions, [(NoMachine, least, ()), (TooGreat, both, TWELVE[0], TWELVE[2]),
                                      (NoRow, takes, LAST, (2,)), (NoNumber, run_machine, 2, 0, 12)])

    def test_what_was_told_may_be_handed_in_again(self):
        for machine in PICKED:
            for told in (contrary(machine), least(machine)):
                self.assertIs(machine_good(told), True)
                self.assertIsNone(parting(contrary(contrary(told)), told))
                self.assertIsNone(parting(both(least(told), least(told)), told))


class WhatFollowsTest(unittest.TestCase):
    """Several functions together."""

    def test_both_either_and_contrary(self):
        machines = small_machines(2, 2)[::5] + small_machines(3, 2)[::101] + ONE_STAND
        for one, other in pairs_of(machines):
            self.assertIsNone(parting(contrary(both(one, other)), either(contrary(one), contrary(other))))
            self.assertEqual(least(both(one, other)), least(both(other, one)))
            for n in (0, 3, 40):
                self.assertEqual(taken_many(both(one, other), n) + taken_many(either(one, other), n),
                                 taken_many(one, n) + taken_many(other, n))
        for machine in MACHINES:
            self.assertEqual(taken_many(machine, 40) + taken_many(contrary(machine), 40), signs_of(machine) ** 40)

    def test_alike_machines_take_as_many(self):
        for machine in MACHINES:
            for n in (0, 1, 13, 40):
                self.assertEqual(taken_many(least(machine), n), taken_many(machine, n))

    def test_a_longer_run_has_a_shorter_one(self):
        for m in (2, 3):
            for k in range(1, 11):
                longer, shorter = run_machine(m, 1, k + 1), run_machine(m, 1, k)
                self.assertEqual(parting(longer, shorter), (1,) * k)
                # Beyond these there are more than twelve pairs.
                if k <= 5:
                    self.assertEqual(least(both(longer, shorter)), least(longer))
                    self.assertEqual(least(either(longer, shorter)), least(shorter))


if __name__ == "__main__":
    unittest.main()
