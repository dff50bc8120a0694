"""Other ways to the numbers and shares that are told, for tests to compare with.

Weights may be whole numbers or fractions; a row's weight is the product of its throws'.
"""

from fractions import Fraction
from functools import lru_cache
import itertools

from tests.helper import greatest, ring_runs_by_the_words, runs_by_the_words


@lru_cache(maxsize=None)
def rows_with_runs(signs, many):
    """All rows of so many throws, each with its runs and its ring runs."""
    return [(row, runs_by_the_words(row), ring_runs_by_the_words(row))
            for row in itertools.product(range(signs), repeat=many)]


def weight_of(row, weights):
    """The product of the weights of the throws."""
    product = 1
    for sign in row:
        product *= weights[sign]
    return product


def weights_by_longest(weights, many, signs, ring=False):
    """At each length, the weight of the rows with this longest run of the signs, one by one."""
    table = [0] * (many + 1)
    for row, runs, ring_runs in rows_with_runs(len(weights), many):
        table[greatest(ring_runs if ring else runs, signs)] += weight_of(row, weights)
    return table


def upto(table, k):
    """The sum of a table up to k, which may lie beyond it."""
    return sum(table[:k + 1])


@lru_cache(maxsize=None)
def long_upto(weight, others, many, k):
    """Rows without a run of the sign longer than k: by where the first other sign stands."""
    total = weight ** many if many <= k else 0
    for ahead in range(min(k, many - 1) + 1):
        total += weight ** ahead * others * long_upto(weight, others, many - ahead - 1, k)
    return total


def long_alike_upto(weights, many, k):
    """Rows without a run longer than k: by the last run, from the shortest rows on."""
    rows = [1]
    ending = [[0] for weight in weights]
    for end in range(1, many + 1):
        for sign, weight in enumerate(weights):
            ending[sign].append(sum([weight ** length * (rows[end - length] - ending[sign][end - length])
                                     for length in range(1, min(k, end) + 1)]))
        rows.append(sum([of_sign[end] for of_sign in ending]))
    return rows[many]


def long_ring_upto(weight, others, many, k):
    """Rows without a ring run of the sign longer than k: by the run ahead, throw by throw."""
    total = weight ** many if many <= k else 0
    for ahead in range(min(k, many - 1) + 1):
        ends = {0: weight ** ahead * others}
        for throw in range(many - ahead - 1):
            grown = {end + 1: weight * rows for end, rows in ends.items() if end < k}
            grown[0] = others * sum(ends.values())
            ends = grown
        total += sum([rows for end, rows in ends.items() if ahead + end <= k])
    return total


def die_shares(die):
    """The shares of the signs of a die, as fractions."""
    return tuple([Fraction(weight, sum(die)) for weight in die])


def as_share(fraction):
    """A fraction or a whole number as the tuple (top, bottom)."""
    fraction = Fraction(fraction)
    return (fraction.numerator, fraction.denominator)


def as_fraction(share):
    """A share as a fraction."""
    return Fraction(share[0], share[1])


@lru_cache(maxsize=None)
def kinds_by_the_words(signs, many):
    """All rows that are their own least turn, rising, with their longest ring run of 0."""
    met = set()
    kinds = []
    for row in itertools.product(range(signs), repeat=many):
        # Rows come rising: the first one met of those turned to one another is the least.
        if row not in met:
            met.update([row[t:] + row[:t] for t in range(many)])
            kinds.append((row, greatest(ring_runs_by_the_words(row), (0,))))
    return kinds


def solved(names, equations):
    """The values x of the names for which x of each name is a number and the sum of factors times others.

    The equations have, for each name, the tuple (number, dict of factors by name).
    """
    rows = [[Fraction(int(name == other)) - Fraction(equations[name][1].get(other, 0)) for other in names]
            + [Fraction(equations[name][0])] for name in names]
    for at in range(len(names)):
        pivot = [row for row in rows[at:] if row[at] != 0][0]
        rows.remove(pivot)
        rows.insert(at, [number / pivot[at] for number in pivot])
        for other, row in enumerate(rows):
            if other != at:
                rows[other] = [number - row[at] * more for number, more in zip(row, rows[at])]
    return {name: row[-1] for name, row in zip(names, rows)}


def first_coming(row, sign, k):
    """The throw, counted from 1, at which k throws of the sign first stand side by side; None where they do not."""
    for end in range(k, len(row) + 1):
        if row[end - k:end] == (sign,) * k:
            return end
    return None


def who_first(row, sign, k, other, length):
    """The sign whose run comes first in a row; None where none comes."""
    one, two = first_coming(row, sign, k), first_coming(row, other, length)
    if one is None and two is None:
        return None
    return sign if two is None or (one is not None and one < two) else other
