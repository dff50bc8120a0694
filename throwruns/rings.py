"""Rows of throws taken as rings: counts, shares, turns and ring kinds."""

from throwruns.counts import weigh_upto
from throwruns.errors import TooGreat
from throwruns.rows import need_die, need_number, need_row, need_sign, need_signs
from throwruns.shares import greatest_divisor, share_of, whole_power

MOST_ROUND = 30
MOST_OF_KIND = 12
MOST_KINDS = 300


def weigh_between(weight, others, n, k):
    """The weight of the rows of n throws, n above 0, that begin and end with another sign.

    As for weigh_upto, they have no run of the sign longer than k.
    """
    if n == 1:
        return others
    return others * others * weigh_upto(weight, others, n - 2, k)


def weigh_ring_upto(weight, others, n, k):
    """The weight of the rows of n throws with no ring run of a sign longer than k."""
    if n <= k:
        return whole_power(weight + others, n)
    total = 0
    for seam in range(k + 1):
        # The run over the seam of the ring has from none to all of its throws at the row's begin.
        ways = (seam + 1) * whole_power(weight, seam)
        total += ways * weigh_between(weight, others, n - seam, k)
    return total


def weigh_ring_just(weight, others, n, k):
    """The weight of the rows of n throws whose longest ring run of a sign is just k."""
    if k == 0:
        return weigh_ring_upto(weight, others, n, 0)
    return weigh_ring_upto(weight, others, n, k) - weigh_ring_upto(weight, others, n, k - 1)


def need_round(m, n):
    """Refuse what is no number of signs, or none of throws, in this order."""
    need_signs(m)
    need_number(n, 0, MOST_ROUND)


def ring_upto(m, n, k):
    """How many rows have no ring run of the sign 0 longer than k."""
    need_round(m, n)
    need_number(k, 0, MOST_ROUND)
    return weigh_ring_upto(1, m - 1, n, k)


def ring_just(m, n, k):
    """How many rows have a longest ring run of the sign 0 of just k."""
    need_round(m, n)
    need_number(k, 0, MOST_ROUND)
    return weigh_ring_just(1, m - 1, n, k)


def ring_table(m, n):
    """The list of ring_just for each k from 0 to n."""
    need_round(m, n)
    return [weigh_ring_just(1, m - 1, n, k) for k in range(n + 1)]


def ring_share(die, sign, n, k):
    """The share of the rows that have no ring run of the sign longer than k."""
    need_die(die)
    need_sign(sign, len(die))
    need_number(n, 0, MOST_ROUND)
    need_number(k, 0, MOST_ROUND)
    weight = weigh_ring_upto(die[sign], sum(die) - die[sign], n, k)
    return share_of(weight, whole_power(sum(die), n))


def turns_of(row):
    """The rows to which a row is turned by none, one and so on, each turn once."""
    # Of no throws, too, there is the turn by none.
    return [row[t:] + row[:t] for t in range(max(len(row), 1))]


def least_turn(row):
    """The least row to which a row is turned."""
    need_row(row)
    return min(turns_of(row))


def turn_to(row, other):
    """The least number of throws by which row is turned to other; None where there is none."""
    need_row(row)
    need_row(other)
    for t, turned in enumerate(turns_of(row)):
        if turned == other:
            return t
    return None


def need_kind(m, n, k):
    """Refuse what is no number of signs, of throws of a ring kind, or no length."""
    need_signs(m)
    need_number(n, 1, MOST_OF_KIND)
    need_number(k, 0, MOST_ROUND)


def kept_by_turn(m, n, k, t):
    """How many rows without a ring run of the sign 0 longer than k are turned by t to themselves."""
    # Such a row is one part again and again, and has the part's ring runs; but
    # where the part is all 0, so is the row, with one run as long as itself.
    part = greatest_divisor(n, t)
    mixed = weigh_ring_upto(1, m - 1, part, min(k, part - 1))
    return mixed + 1 if n <= k else mixed


def kinds_many(m, n, k):
    """How many ring kinds have no ring run of the sign 0 longer than k."""
    need_kind(m, n, k)
    # The rows to which a kind is turned, each counted once for each turn that keeps it, come to n.
    return sum([kept_by_turn(m, n, k, t) for t in range(n)]) // n


def grown_kinds(begun, m):
    """The begun kinds (row, part) that have one throw more than a begun one, rising.

    The row may begin a least turn; it is its first part, of so many throws, again
    and again, the last time perhaps broken off.
    """
    row, part = begun
    if row == ():
        return [((thrown,), 1) for thrown in range(m)]
    # With a smaller sign than the part goes on with, a turn would be less than the row.
    same = row[-part]
    greater = [(row + (thrown,), len(row) + 1) for thrown in range(same + 1, m)]
    return [(row + (same,), part)] + greater


def kinds_list(m, n, k):
    """The rising list of all ring kinds with no ring run of the sign 0 longer than k."""
    many = kinds_many(m, n, k)
    if many > MOST_KINDS:
        raise TooGreat(many, MOST_KINDS)
    # A least turn begins with its longest ring run of the sign 0: no other one is looked at.
    too_long = (0,) * (k + 1)
    begun_kinds = [((), 1)]
    for throw in range(n):
        grown = [kind for begun in begun_kinds for kind in grown_kinds(begun, m)]
        begun_kinds = [(row, part) for row, part in grown if row[:k + 1] != too_long]
    return [row for row, part in begun_kinds if n % part == 0]
