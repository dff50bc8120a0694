"""How many rows of throws there are, by their longest run.

The functions that weigh tell the weights of rows together, a row's weight being
the product of the weights of its throws; where each sign weighs 1, this is how
many rows there are. They rely on good arguments, those that count refuse others.
"""

from throwruns.errors import TooGreat
from throwruns.rows import MOST_THROWS, need_number, need_sign, need_signs
from throwruns.shares import whole_power

MOST_COUNTED = 40
MOST_LISTED = 500


def weigh_upto(weight, others, n, k):
    """The weight of the rows of n throws with no run of a sign longer than k.

    The sign has this weight, the other signs together that of others.
    """
    # At j stands the weight of the rows so far that end with just j of the sign.
    ends = [1] + [0] * k
    for throw in range(n):
        ends = [others * sum(ends)] + [weight * end for end in ends[:-1]]
    return sum(ends)


def weigh_just(weight, others, n, k):
    """The weight of the rows of n throws whose longest run of a sign is just k."""
    if k == 0:
        return weigh_upto(weight, others, n, 0)
    return weigh_upto(weight, others, n, k) - weigh_upto(weight, others, n, k - 1)


def weigh_table(weight, others, n):
    """The list of weigh_just for each k from 0 to n."""
    return [weigh_just(weight, others, n, k) for k in range(n + 1)]


def weigh_alike_upto(weights, n, k):
    """The weight of the rows of n throws with no run of any sign longer than k."""
    if n == 0:
        return 1
    if k == 0:
        return 0
    # For each sign, at j stands the weight of the rows so far that end with just j and 1 of it.
    ends = [[weight] + [0] * (k - 1) for weight in weights]
    for throw in range(n - 1):
        whole = sum([sum(of_sign) for of_sign in ends])
        ends = [[weight * (whole - sum(of_sign))] + [weight * end for end in of_sign[:-1]]
                for weight, of_sign in zip(weights, ends)]
    return sum([sum(of_sign) for of_sign in ends])


def weigh_runs(weight, others, n, k):
    """The runs of a sign of length k or more, k above 0, each with the weight of its row."""
    if k > n:
        return 0
    run = whole_power(weight, k)
    at_first = run * whole_power(weight + others, n - k)
    if k == n:
        return at_first
    # A run that begins later has another sign ahead of it.
    return at_first + (n - k) * others * run * whole_power(weight + others, n - k - 1)


def need_counted(m, n):
    """Refuse what is no number of signs, or none of throws, in this order."""
    need_signs(m)
    need_number(n, 0, MOST_COUNTED)


def rows_upto(m, n, k):
    """How many rows have no run of the sign 0 longer than k."""
    need_counted(m, n)
    need_number(k, 0, MOST_COUNTED)
    return weigh_upto(1, m - 1, n, k)


def rows_just(m, n, k):
    """How many rows have a longest run of the sign 0 of just k."""
    need_counted(m, n)
    need_number(k, 0, MOST_COUNTED)
    return weigh_just(1, m - 1, n, k)


def alike_upto(m, n, k):
    """How many rows have no run of any sign longer than k."""
    need_counted(m, n)
    need_number(k, 0, MOST_COUNTED)
    return weigh_alike_upto([1] * m, n, k)


def alike_just(m, n, k):
    """How many rows have a longest run of all of just k."""
    upto = alike_upto(m, n, k)
    if k == 0:
        return upto
    return upto - alike_upto(m, n, k - 1)


def rows_table(m, n):
    """The list of rows_just for each k from 0 to n."""
    need_counted(m, n)
    return weigh_table(1, m - 1, n)


def alike_table(m, n):
    """The list of alike_just for each k from 0 to n."""
    need_counted(m, n)
    return [alike_just(m, n, k) for k in range(n + 1)]


def rows_by_runs(m, n):
    """The list, at j from 0 to n, of how many rows have just j runs."""
    need_counted(m, n)
    if n == 0:
        return [1]
    many = [0, m]
    for throw in range(n - 1):
        same = many + [0]
        # Another sign than the last one begins one run more.
        other = [0] + [(m - 1) * rows for rows in many]
        many = [one + more for one, more in zip(same, other)]
    return many


def runs_total(m, n, k):
    """How many runs of the sign 0 of length k or more all rows have together."""
    need_counted(m, n)
    need_number(k, 1, MOST_COUNTED)
    return weigh_runs(1, m - 1, n, k)


def grown_by(begun, thrown, sign):
    """A begun row (row, ending, best) with one throw more.

    Ending is how many of the sign the row ends with, best its longest run of it.
    """
    row, ending, best = begun
    ending = ending + 1 if thrown == sign else 0
    return (row + (thrown,), ending, max(best, ending))


def can_come_to(begun, left, k):
    """Whether a begun row, with left throws more, can have a longest run of just k."""
    row, ending, best = begun
    return best == k or best < k <= ending + left


def rows_with(m, sign, n, k):
    """The rising list of all rows whose longest run of the sign is just k."""
    need_signs(m)
    need_sign(sign, m)
    need_number(n, 0, MOST_THROWS)
    need_number(k, 0, MOST_COUNTED)
    many = rows_just(m, n, k)
    if many > MOST_LISTED:
        raise TooGreat(many, MOST_LISTED)
    if many == 0:
        return []
    rows = [((), 0, 0)]
    for left in reversed(range(n)):
        grown = [grown_by(begun, thrown, sign) for begun in rows for thrown in range(m)]
        rows = [begun for begun in grown if can_come_to(begun, left, k)]
    return [row for row, ending, best in rows]
