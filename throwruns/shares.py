"""Whole numbers, and reckoning with shares.

A share is a tuple (top, bottom) of two whole numbers, bottom above 0, that no
number above 1 divides both. All functions here that take shares rely on that;
share_good alone takes whatever is handed in.
"""

NOTHING = (0, 1)
ALL = (1, 1)


def is_whole(thing):
    """Whether a thing is a whole number: True and False are none."""
    return isinstance(thing, int) and not isinstance(thing, bool)


def is_whole_within(thing, low, high):
    """Whether a thing is a whole number from low to high."""
    return is_whole(thing) and low <= thing <= high


def greatest_divisor(one, other):
    """The greatest number that divides both; 0 of twice 0."""
    one, other = abs(one), abs(other)
    while other != 0:
        one, other = other, one % other
    return one


def whole_power(base, exponent):
    """A whole number to the power of a number from 0 on."""
    power = 1
    for step in range(exponent):
        power *= base
    return power


def share_good(thing):
    """Whether whatever is handed in is a share."""
    if not isinstance(thing, tuple) or len(thing) != 2:
        return False
    top, bottom = thing
    if not is_whole(top) or not is_whole(bottom):
        return False
    return bottom > 0 and greatest_divisor(top, bottom) == 1


def share_of(top, bottom):
    """The share that top divided by bottom is; bottom may be below 0."""
    # Without this a top that is not 0 would be told as a tuple with bottom 0.
    if bottom == 0:
        raise ZeroDivisionError("a share has no bottom 0")
    divisor = greatest_divisor(top, bottom)
    if bottom < 0:
        divisor = -divisor
    return (top // divisor, bottom // divisor)


def share_plus(one, other):
    """The sum of two shares."""
    return share_of(one[0] * other[1] + other[0] * one[1], one[1] * other[1])


def share_less(one, other):
    """What is left of one where other is taken from it."""
    return share_of(one[0] * other[1] - other[0] * one[1], one[1] * other[1])


def share_times(one, other):
    """The product of two shares."""
    return share_of(one[0] * other[0], one[1] * other[1])


def share_by(one, other):
    """One divided by other, which is not 0."""
    return share_of(one[0] * other[1], one[1] * other[0])


def share_power(share, exponent):
    """A share to the power of a number from 0 on."""
    power = ALL
    for step in range(exponent):
        power = share_times(power, share)
    return power


def share_sum(shares):
    """The sum of a list or tuple of shares, perhaps of none."""
    total = NOTHING
    for share in shares:
        total = share_plus(total, share)
    return total


def share_below(one, other):
    """Whether one is smaller than other."""
    return one[0] * other[1] < other[0] * one[1]


def share_least(shares):
    """The least of one or more shares."""
    least = shares[0]
    for share in shares:
        if share_below(share, least):
            least = share
    return least


def share_greatest(shares):
    """The greatest of one or more shares."""
    greatest = shares[0]
    for share in shares:
        if share_below(greatest, share):
            greatest = share
    return greatest
