"""Bounds, for any number of throws, of the share with which no run of k throws of a sign stands.

Weights are a tuple of k shares above 0, one for each j: that a row ends with just j
throws of the sign and has no run of k. A bound is a tuple (weights, factor).
"""

from throwruns.comings import need_awaited, step_on, waits_list
from throwruns.errors import NoPaper
from throwruns.rows import need_number
from throwruns.shares import (share_below, share_by, share_good, share_greatest, share_least, share_power,
                              share_times)

MOST_BOUNDED = 40


def weights_good(thing, k):
    """Whether whatever is handed in are weights, k of them."""
    if not isinstance(thing, tuple) or len(thing) != k:
        return False
    return all([share_good(share) and share[0] > 0 for share in thing])


def stepped(die, sign, k, weights):
    """The weights that one throw makes of weights."""
    need_awaited(die, sign, k)
    if not weights_good(weights, k):
        raise NoPaper()
    return tuple(step_on(die, sign, weights))


def factors_of(die, sign, k, weights):
    """The least and the greatest share that stepped weights make by the weights."""
    after = stepped(die, sign, k, weights)
    factors = [share_by(one, weight) for one, weight in zip(after, weights)]
    return (share_least(factors), share_greatest(factors))


def bound_good(thing, k):
    """Whether whatever is handed in is a tuple of k weights and a factor."""
    if not isinstance(thing, tuple) or len(thing) != 2:
        return False
    weights, factor = thing
    return weights_good(weights, k) and share_good(factor) and factor[0] >= 0


def above_good(die, sign, k, thing):
    """Whether whatever is handed in is a bound from above."""
    need_awaited(die, sign, k)
    if not bound_good(thing, k):
        return False
    weights, factor = thing
    low, high = factors_of(die, sign, k, weights)
    return not share_below(factor, high)


def below_good(die, sign, k, thing):
    """Whether whatever is handed in is a bound from below."""
    need_awaited(die, sign, k)
    if not bound_good(thing, k):
        return False
    weights, factor = thing
    low, high = factors_of(die, sign, k, weights)
    return not share_below(low, factor)


def need_above(die, sign, k, bound):
    """Refuse what is no bound from above."""
    if not above_good(die, sign, k, bound):
        raise NoPaper()


def bound_at(bound, n, measure):
    """The factor to the power of n, times the weight at 0, by a measure."""
    weights, factor = bound
    return share_times(share_power(factor, n), share_by(weights[0], measure))


def above_at(die, sign, k, bound, n):
    """What a bound from above tells of n throws."""
    need_above(die, sign, k, bound)
    need_number(n, 0, MOST_BOUNDED)
    return bound_at(bound, n, share_least(bound[0]))


def below_at(die, sign, k, bound, n):
    """What a bound from below tells of n throws."""
    if not below_good(die, sign, k, bound):
        raise NoPaper()
    need_number(n, 0, MOST_BOUNDED)
    return bound_at(bound, n, share_greatest(bound[0]))


def mean_weights(die, sign, k):
    """Weights with a low above 0 and a high below 1."""
    # One throw takes 1 from each mean wait, and each is above 1.
    return tuple(waits_list(die, sign, k))


def above_paper(die, sign, k):
    """Some bound from above with a factor below 1."""
    weights = mean_weights(die, sign, k)
    low, high = factors_of(die, sign, k, weights)
    return (weights, high)


def below_paper(die, sign, k):
    """Some bound from below with a factor above 0."""
    weights = mean_weights(die, sign, k)
    low, high = factors_of(die, sign, k, weights)
    return (weights, low)


def closer(die, sign, k, bound):
    """The bound from above of the stepped weights with the least factor."""
    need_above(die, sign, k, bound)
    weights = stepped(die, sign, k, bound[0])
    low, high = factors_of(die, sign, k, weights)
    return (weights, high)
