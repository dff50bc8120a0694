"""Free rows, all runs of which are shorter than k, in the order of tuples and numbered from 0."""

from throwruns.counts import MOST_LISTED, weigh_alike_upto
from throwruns.errors import NoRow, TooGreat
from throwruns.rows import MOST_THROWS, longest_any, need_number, need_signs, row_good_of, runs_of

MOST_FREE = 20


def need_free_length(k):
    """Refuse what is no length from which on runs are too long."""
    need_number(k, 1, MOST_FREE)


def need_ordered(m, n, k):
    """Refuse what is no number of signs, of throws, or no length, in this order."""
    need_signs(m)
    need_number(n, 0, MOST_THROWS)
    need_free_length(k)


def ways_on(m, k, row, left):
    """How many free rows begin with a row and have left throws more."""
    if longest_any(row) >= k:
        return 0
    if row == ():
        return weigh_alike_upto([1] * m, left, k - 1)
    # At j stands how many rows so far end with a run of just j and 1.
    ends = [0] * (k - 1)
    ends[runs_of(row)[-1][2] - 1] = 1
    for throw in range(left):
        ends = [(m - 1) * sum(ends)] + ends[:-1]
    return sum(ends)


def free_many(m, n, k):
    """How many free rows there are."""
    need_ordered(m, n, k)
    return ways_on(m, k, (), n)


def free_nth(m, n, k, number):
    """The free row of this number."""
    need_number(number, 0, free_many(m, n, k) - 1)
    row = ()
    # How many of the rows that begin as this one are ahead of the wanted one.
    ahead = number
    for left in reversed(range(n)):
        sign = 0
        ways = ways_on(m, k, row + (sign,), left)
        while ahead >= ways:
            ahead -= ways
            sign += 1
            ways = ways_on(m, k, row + (sign,), left)
        row = row + (sign,)
    return row


def free_rank(m, k, row):
    """The number of a free row."""
    need_signs(m)
    need_free_length(k)
    if not row_good_of(row, m) or longest_any(row) >= k:
        raise NoRow()
    # Ahead of a row are those that have, at the first place where they are unlike, a smaller sign.
    return sum([ways_on(m, k, row[:at] + (smaller,), len(row) - at - 1)
                for at, sign in enumerate(row) for smaller in range(sign)])


def free_next(m, k, row):
    """The free row behind a free row; None behind the last one."""
    number = free_rank(m, k, row) + 1
    if number == free_many(m, len(row), k):
        return None
    return free_nth(m, len(row), k, number)


def need_begun(m, n, k, row):
    """Refuse wrong numbers, and what is no row of at most n throws of the signs below m."""
    need_ordered(m, n, k)
    if not row_good_of(row, m) or len(row) > n:
        raise NoRow()


def free_begun(m, n, k, row):
    """How many free rows begin with a row."""
    need_begun(m, n, k, row)
    return ways_on(m, k, row, n - len(row))


def next_signs(m, n, k, row):
    """The rising list of the signs that the throw behind a row has in free rows."""
    need_begun(m, n, k, row)
    left = n - len(row) - 1
    if left < 0:
        return []
    return [sign for sign in range(m) if ways_on(m, k, row + (sign,), left) > 0]


def free_all(m, n, k):
    """The list of all free rows, in order."""
    many = free_many(m, n, k)
    if many > MOST_LISTED:
        raise TooGreat(many, MOST_LISTED)
    rows = [()]
    for throw in range(n):
        grown = [row + (sign,) for row in rows for sign in range(m)]
        rows = [row for row in grown if longest_any(row) < k]
    return rows
