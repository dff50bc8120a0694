"""Which of two runs comes first, as a die is thrown again and again.

A match is a tuple (die, sign, k, other, l): k throws of the one sign, or l of the
other one?
"""

from throwruns.comings import mean_first, waits_list
from throwruns.errors import NoLine
from throwruns.rows import die_good, need_number
from throwruns.shared import share_in_all
from throwruns.shares import (ALL, NOTHING, is_whole_within, share_by, share_good, share_less, share_of,
                              share_plus, share_sum, share_times)

MOST_MATCHED = 6
MOST_PLAYED = 30
NO_STAND = (None, 0)


def match_good(thing):
    """Whether whatever is handed in is a match."""
    if not isinstance(thing, tuple) or len(thing) != 5:
        return False
    die, sign, k, other, length = thing
    if not die_good(die):
        return False
    if not all([is_whole_within(thrown, 0, len(die) - 1) for thrown in (sign, other)]):
        return False
    return sign != other and all([is_whole_within(wanted, 1, MOST_MATCHED) for wanted in (k, length)])


def need_match(thing):
    """Refuse what is no match."""
    if not match_good(thing):
        raise NoLine()


def stands_list(match):
    """The list of all stands of a match."""
    need_match(match)
    die, sign, k, other, length = match
    of_one = [(sign, many) for many in range(1, k)]
    of_other = [(other, many) for many in range(1, length)]
    return [NO_STAND] + of_one + of_other


def stand_behind(match, stand, thrown):
    """The stand behind a throw, or the sign and length of the run that is there then."""
    die, sign, k, other, length = match
    if thrown not in (sign, other):
        return NO_STAND
    return (thrown, stand[1] + 1) if thrown == stand[0] else (thrown, 1)


def first_share(match):
    """The share with which the one run comes first, from nothing thrown."""
    return share_paper(match)[0]


def share_paper(match):
    """The tuple of the shares with which the one run comes first, by the stands."""
    need_match(match)
    die, sign, k, other, length = match
    ones, others = waits_list(die, sign, k), waits_list(die, other, length)
    together = share_plus(ones[0], others[0])
    # A throw shortens both waits by 1 in the mean: it leaves them as far apart as they are.
    # Where a run is there, its wait is 0 and the other one whole: so how far apart they are tells the share.
    nothing = [share_by(others[0], together)]
    of_one = [share_less(ALL, share_by(wait, together)) for wait in ones[1:]]
    of_other = [share_by(wait, together) for wait in others[1:]]
    return tuple(nothing + of_one + of_other)


def paper_good(match, thing):
    """Whether whatever is handed in is a tuple of shares, by the stands, that keeps to 7.3."""
    stands = stands_list(match)
    if not isinstance(thing, tuple) or len(thing) != len(stands):
        return False
    if not all([share_good(share) for share in thing]):
        return False
    die, sign, k, other, length = match
    shares = dict(zip(stands, thing))
    shares[(sign, k)] = ALL
    shares[(other, length)] = NOTHING
    chances = [share_of(weight, sum(die)) for weight in die]
    for stand in stands:
        follows = [shares[stand_behind(match, stand, thrown)] for thrown in range(len(die))]
        if shares[stand] != share_sum([share_times(chance, share) for chance, share in zip(chances, follows)]):
            return False
    return True


def mean_throws(match):
    """How many throws are made in the mean till one of both runs stands."""
    need_match(match)
    die, sign, k, other, length = match
    # The wait for the one run is these throws and, where the other run comes first, that whole wait anew.
    return share_times(mean_first(die, sign, k), first_share(match))


def shares_by(match, n):
    """The shares with which, within n throws, the one run came first, the other one did, none came."""
    need_match(match)
    need_number(n, 0, MOST_PLAYED)
    die, sign, k, other, length = match
    stands = stands_list(match)
    one_there, other_there = (sign, k), (other, length)
    ends = {stand: 0 for stand in stands + [one_there, other_there]}
    ends[NO_STAND] = 1
    for throw in range(n):
        grown = {stand: 0 for stand in stands}
        # Whatever is thrown then, a run that came first has come first.
        grown[one_there] = ends[one_there] * sum(die)
        grown[other_there] = ends[other_there] * sum(die)
        for stand in stands:
            for thrown, weight in enumerate(die):
                grown[stand_behind(match, stand, thrown)] += weight * ends[stand]
        ends = grown
    none = sum([ends[stand] for stand in stands])
    return tuple([share_in_all(die, n, weight) for weight in (ends[one_there], ends[other_there], none)])
