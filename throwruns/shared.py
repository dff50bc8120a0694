"""The shares of the rows of throws of a die, by their longest run."""

from throwruns.counts import (MOST_COUNTED, weigh_alike_upto, weigh_just, weigh_runs, weigh_table,
                              weigh_upto)
from throwruns.rows import need_die, need_number, need_sign
from throwruns.shares import share_of, whole_power


def need_thrown(die, sign, n):
    """Refuse what is no die, no sign of it, or no number of throws, in this order."""
    need_die(die)
    need_sign(sign, len(die))
    need_number(n, 0, MOST_COUNTED)


def others_weight(die, sign):
    """The weight of the other signs together."""
    return sum(die) - die[sign]


def share_in_all(die, n, weight):
    """The share that rows of n throws have whose weights come to this one."""
    return share_of(weight, whole_power(sum(die), n))


def share_upto(die, sign, n, k):
    """The share of the rows whose longest run of the sign is at most k."""
    need_thrown(die, sign, n)
    need_number(k, 0, MOST_COUNTED)
    return share_in_all(die, n, weigh_upto(die[sign], others_weight(die, sign), n, k))


def share_just(die, sign, n, k):
    """The share of the rows whose longest run of the sign is just k."""
    need_thrown(die, sign, n)
    need_number(k, 0, MOST_COUNTED)
    return share_in_all(die, n, weigh_just(die[sign], others_weight(die, sign), n, k))


def any_upto(die, n, k):
    """The share of the rows all runs of which are at most k long."""
    need_die(die)
    need_number(n, 0, MOST_COUNTED)
    need_number(k, 0, MOST_COUNTED)
    return share_in_all(die, n, weigh_alike_upto(die, n, k))


def share_table(die, sign, n):
    """The list of share_just for each k from 0 to n."""
    need_thrown(die, sign, n)
    table = weigh_table(die[sign], others_weight(die, sign), n)
    return [share_in_all(die, n, weight) for weight in table]


def mean_longest(die, sign, n):
    """The mean of the longest run of the sign."""
    need_thrown(die, sign, n)
    table = weigh_table(die[sign], others_weight(die, sign), n)
    return share_in_all(die, n, sum([k * weight for k, weight in enumerate(table)]))


def mean_runs(die, sign, n, k):
    """How many runs of the sign of length k or more a row has in the mean."""
    need_thrown(die, sign, n)
    need_number(k, 1, MOST_COUNTED)
    return share_in_all(die, n, weigh_runs(die[sign], others_weight(die, sign), n, k))
