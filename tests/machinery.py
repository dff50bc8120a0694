"""Machines for tests, and what 5.1 to 5.5 tell of them, word by word."""

import itertools
import random

from tests.helper import short_rows


def machine_by_the_words(thing):
    """Whether a thing is a machine, as 5.1 tells."""
    if type(thing) is not tuple or len(thing) != 2:
        return False
    steps, good = thing
    if type(steps) is not tuple or type(good) is not tuple or len(steps) not in range(1, 13):
        return False
    stands = range(len(steps))
    for row in steps:
        if type(row) is not tuple or len(row) not in (2, 3) or len(row) != len(steps[0]):
            return False
        if [stand for stand in row if type(stand) is not int or stand not in stands]:
            return False
    if [stand for stand in good if type(stand) is not int or stand not in stands]:
        return False
    return list(good) == sorted(set(good))


def small_machines(signs, stands):
    """All machines for so many signs with so many stands."""
    rows = list(itertools.product(range(stands), repeat=signs))
    goods = [good for many in range(stands + 1) for good in itertools.combinations(range(stands), many)]
    return [(steps, good) for steps in itertools.product(rows, repeat=stands) for good in goods]


def some_machine(chance, signs, stands):
    """A machine whose steps and good stands are picked by a chance source."""
    steps = tuple([tuple([chance.randrange(stands) for sign in range(signs)]) for stand in range(stands)])
    return (steps, tuple([stand for stand in range(stands) if chance.random() < 0.4]))


def picked_machines(seed, signs, stands, many):
    """So many machines, the same ones for the same seed."""
    chance = random.Random(seed)
    return [some_machine(chance, signs, stands) for time in range(many)]


def ring_of_stands(signs, stands, turning, good):
    """A machine that goes on round its stands with the turning signs, and stays with the others."""
    steps = [tuple([(stand + 1) % stands if sign in turning else stand for sign in range(signs)])
             for stand in range(stands)]
    return (tuple(steps), tuple(good))


def end_of(machine, row, begin=0):
    """The stand at which a machine ends."""
    stand = begin
    for sign in row:
        stand = machine[0][stand][sign]
    return stand


def taken_by_the_words(machine, row):
    """Whether a machine takes a row."""
    return end_of(machine, row) in machine[1]


def first_rows(machines, most):
    """The stands to which machines come together, in order, each with the first row, of at most so many throws."""
    met = {}
    for row in short_rows(most, len(machines[0][0][0])):
        met.setdefault(tuple([end_of(machine, row) for machine in machines]), row)
    return met


def machine_over(machines, most, takes):
    """The machine of 5.4 over the stands of some, numbered by the words; takes tells, of their answers, its own."""
    met = first_rows(machines, most)
    numbers = {stands: number for number, stands in enumerate(met)}
    signs = range(len(machines[0][0][0]))
    steps = [tuple([numbers[tuple([end_of(machine, row + (sign,)) for machine in machines])] for sign in signs])
             for row in met.values()]
    good = [numbers[stands] for stands, row in met.items()
            if takes([taken_by_the_words(machine, row) for machine in machines])]
    return (tuple(steps), tuple(good))


def together_many(one, other):
    """How many pairs of stands two machines come to together."""
    met = {(0, 0)}
    while True:
        grown = met | {(one[0][first][sign], other[0][second][sign])
                       for first, second in met for sign in range(len(one[0][0]))}
        if grown == met:
            return len(met)
        met = grown


def unlike_stands(machine, most):
    """How many stands that are come to take unlike rows behind them, of at most so many throws."""
    rows = list(short_rows(most, len(machine[0][0])))
    met = {0}
    for step in machine[0]:
        met |= {stand for begin in met for stand in machine[0][begin]}
    return len({tuple([end_of(machine, row, begin) in machine[1] for row in rows]) for begin in met})
