"""Dice, rows of throws, and their runs in a row and on a ring."""

from throwruns.errors import NoDie, NoNumber, NoRow
from throwruns.shares import is_whole_within

LEAST_SIGNS = 2
MOST_SIGNS = 3
LEAST_WEIGHT = 1
MOST_WEIGHT = 9
MOST_THROWS = 20


def die_good(thing):
    """Whether whatever is handed in is a die."""
    if not isinstance(thing, tuple) or not LEAST_SIGNS <= len(thing) <= MOST_SIGNS:
        return False
    return all([is_whole_within(weight, LEAST_WEIGHT, MOST_WEIGHT) for weight in thing])


def sign_good(thing):
    """Whether whatever is handed in is a sign that a row may have."""
    return is_whole_within(thing, 0, MOST_SIGNS - 1)


def row_good(thing):
    """Whether whatever is handed in is a row of throws."""
    if not isinstance(thing, tuple) or len(thing) > MOST_THROWS:
        return False
    return all([sign_good(sign) for sign in thing])


def row_good_of(thing, signs):
    """Whether whatever is handed in is a row of throws of so many signs."""
    return row_good(thing) and all([sign < signs for sign in thing])


def need_die(thing):
    """Refuse what is no die."""
    if not die_good(thing):
        raise NoDie()


def need_row(thing):
    """Refuse what is no row of throws."""
    if not row_good(thing):
        raise NoRow()


def need_number(thing, low, high):
    """Refuse what is no whole number from low to high."""
    if not is_whole_within(thing, low, high):
        raise NoNumber()


def need_signs(thing):
    """Refuse what is no number of signs that a die may have."""
    need_number(thing, LEAST_SIGNS, MOST_SIGNS)


def need_sign(thing, signs):
    """Refuse what is none of so many signs."""
    need_number(thing, 0, signs - 1)


def greatest_length(runs):
    """The greatest length of some runs, 0 of none."""
    return max([length for sign, begin, length in runs], default=0)


def runs_of_sign(runs, wanted):
    """Those of the runs that are of the wanted sign."""
    return [run for run in runs if run[0] == wanted]


def runs_of(row):
    """The list of all runs (sign, begin, length) of a row, by where they begin."""
    need_row(row)
    runs = []
    begin = 0
    for end in range(1, len(row) + 1):
        if end == len(row) or row[end] != row[begin]:
            runs.append((row[begin], begin, end - begin))
            begin = end
    return runs


def longest(row, sign):
    """The greatest length of the row's runs of this sign, 0 where there is none."""
    need_row(row)
    need_sign(sign, MOST_SIGNS)
    return greatest_length(runs_of_sign(runs_of(row), sign))


def longest_any(row):
    """The greatest length of all runs of the row, 0 of no throws."""
    return greatest_length(runs_of(row))


def ring_runs(row):
    """The list of the runs of a row taken as a ring, by where they begin."""
    runs = runs_of(row)
    # A single run meets itself round the ring: it is not joined to itself.
    if len(runs) < 2 or runs[0][0] != runs[-1][0]:
        return runs
    sign, begin, length = runs[-1]
    return runs[1:-1] + [(sign, begin, length + runs[0][2])]


def ring_longest(row, sign):
    """The greatest length of the ring runs of this sign, 0 where there is none."""
    need_row(row)
    need_sign(sign, MOST_SIGNS)
    return greatest_length(runs_of_sign(ring_runs(row), sign))
