"""When a run of k throws of a sign first comes, as a die is thrown again and again."""

from throwruns.counts import weigh_upto
from throwruns.rows import need_die, need_number, need_sign
from throwruns.shared import others_weight, share_in_all
from throwruns.shares import (ALL, NOTHING, share_below, share_good, share_less, share_of, share_plus,
                              share_power, share_sum, share_times)

MOST_AWAITED = 8
MOST_WAITED = 60
HALF = (1, 2)


def need_awaited(die, sign, k):
    """Refuse what is no die, no sign of it, or no length, in this order."""
    need_die(die)
    need_sign(sign, len(die))
    need_number(k, 1, MOST_AWAITED)


def weigh_comings(weight, others, k, n):
    """At each number of throws up to n, the weight of the rows whose last throw makes the first run of k."""
    comings = [0]
    # At j stands the weight of the rows so far that end with just j of the sign, no run of k there.
    ends = [1] + [0] * (k - 1)
    for throw in range(n):
        comings.append(weight * ends[-1])
        ends = [others * sum(ends)] + [weight * end for end in ends[:-1]]
    return comings


def comes_share(die, sign, k, n):
    """The share with which a run of k comes first at throw n."""
    return comes_list(die, sign, k, n)[n]


def within_share(die, sign, k, n):
    """The share with which a run of k comes first at throw n or ahead of it."""
    need_awaited(die, sign, k)
    need_number(n, 0, MOST_WAITED)
    without = weigh_upto(die[sign], others_weight(die, sign), n, k - 1)
    return share_less(ALL, share_in_all(die, n, without))


def comes_list(die, sign, k, n):
    """The list of comes_share at 0, 1 and so on, up to n."""
    need_awaited(die, sign, k)
    need_number(n, 0, MOST_WAITED)
    comings = weigh_comings(die[sign], others_weight(die, sign), k, n)
    return [share_in_all(die, throw, weight) for throw, weight in enumerate(comings)]


def half_by(die, sign, k):
    """The least n with a within_share of at least a half; None where there is none up to 60."""
    within = NOTHING
    for n, share in enumerate(comes_list(die, sign, k, MOST_WAITED)):
        within = share_plus(within, share)
        if not share_below(within, HALF):
            return n
    return None


def mean_first(die, sign, k):
    """At which throw a run of k comes first in the mean."""
    return waits_list(die, sign, k)[0]


def waits_list(die, sign, k):
    """At j below k, how many more throws are made in the mean behind just j of the sign."""
    need_awaited(die, sign, k)
    # What 6.5 tells of the mean from the first throw on holds from j on for what is still wanted.
    powers = [share_power(share_of(sum(die), die[sign]), i) for i in range(k + 1)]
    return [share_sum(powers[j + 1:]) for j in range(k)]


def step_on(die, sign, shares):
    """The list that has at j what one throw makes of shares, one for each j: see 6.4 and 8.1."""
    own = share_of(die[sign], sum(die))
    rest = share_times(share_less(ALL, own), shares[0])
    behind = list(shares[1:]) + [NOTHING]
    return [share_plus(share_times(own, share), rest) for share in behind]


def waits_good(die, sign, k, thing):
    """Whether whatever is handed in is a list of k shares that keeps to 6.4."""
    need_awaited(die, sign, k)
    if not isinstance(thing, list) or len(thing) != k:
        return False
    if not all([share_good(share) for share in thing]):
        return False
    return thing == [share_plus(ALL, share) for share in step_on(die, sign, thing)]
