"""Machines with few stands that read rows of throws.

A machine is a tuple (steps, good): for each stand the stands behind a throw of 0, of
1 and so on, and the rising tuple of the good stands. It begins at stand 0.
"""

from throwruns.errors import NoDie, NoMachine, NoRow, TooGreat
from throwruns.rows import LEAST_SIGNS, MOST_SIGNS, die_good, need_number, need_sign, need_signs
from throwruns.shared import share_in_all
from throwruns.shares import is_whole_within

MOST_STANDS = 12
MOST_READ = 30
MOST_TAKEN = 40
MOST_WATCHED = 11


def all_within(thing, high):
    """Whether whatever is handed in is a tuple of whole numbers from 0 to high."""
    return isinstance(thing, tuple) and all([is_whole_within(number, 0, high) for number in thing])


def steps_good(thing):
    """Whether whatever is handed in can be the steps of a machine."""
    if not isinstance(thing, tuple) or not 1 <= len(thing) <= MOST_STANDS:
        return False
    if not all([all_within(row, len(thing) - 1) for row in thing]):
        return False
    signs = len(thing[0])
    return LEAST_SIGNS <= signs <= MOST_SIGNS and all([len(row) == signs for row in thing])


def rising_stands(thing, many):
    """Whether whatever is handed in is a rising tuple of some of so many stands."""
    if not all_within(thing, many - 1):
        return False
    return all([one < behind for one, behind in zip(thing, thing[1:])])


def machine_good(thing):
    """Whether whatever is handed in is a machine."""
    if not isinstance(thing, tuple) or len(thing) != 2:
        return False
    steps, good = thing
    return steps_good(steps) and rising_stands(good, len(steps))


def need_machine(thing):
    """Refuse what is no machine."""
    if not machine_good(thing):
        raise NoMachine()


def signs_read(machine):
    """How many signs a machine is for."""
    return len(machine[0][0])


def need_alike(one, other):
    """Refuse what are not two machines for as many signs."""
    need_machine(one)
    need_machine(other)
    if signs_read(one) != signs_read(other):
        raise NoMachine()


def stands_of(machine, row):
    """The list of the stands at which a machine is, at first and behind each throw."""
    need_machine(machine)
    if not all_within(row, signs_read(machine) - 1) or len(row) > MOST_READ:
        raise NoRow()
    steps, good = machine
    stands = [0]
    for sign in row:
        stands.append(steps[stands[-1]][sign])
    return stands


def takes(machine, row):
    """Whether a machine takes a row."""
    return stands_of(machine, row)[-1] in machine[1]


def weigh_taken(machine, weights, n):
    """The weight of the rows of n throws that a machine takes, by the weights of the signs."""
    steps, good = machine
    # At each stand, the weight of the rows so far that end there.
    ends = [1] + [0] * (len(steps) - 1)
    for throw in range(n):
        grown = [0] * len(steps)
        for row, end in zip(steps, ends):
            for weight, stand in zip(weights, row):
                grown[stand] += weight * end
        ends = grown
    return sum([ends[stand] for stand in good])


def taken_many(machine, n):
    """How many rows of n throws a machine takes."""
    need_machine(machine)
    need_number(n, 0, MOST_TAKEN)
    return weigh_taken(machine, [1] * signs_read(machine), n)


def taken_share(machine, die, n):
    """The share of the rows of n throws of a die that a machine takes."""
    need_machine(machine)
    if not die_good(die) or len(die) != signs_read(machine):
        raise NoDie()
    need_number(n, 0, MOST_TAKEN)
    return share_in_all(die, n, weigh_taken(machine, die, n))


def run_machine(m, sign, k):
    """The machine that takes the rows with a run of the sign of length k or more."""
    need_signs(m)
    need_sign(sign, m)
    need_number(k, 1, MOST_WATCHED)
    steps = [tuple([stand + 1 if thrown == sign else 0 for thrown in range(m)]) for stand in range(k)]
    return (tuple(steps + [(k,) * m]), (k,))


def no_run(m, sign, k):
    """The machine with the steps of run_machine that takes the other rows."""
    return contrary(run_machine(m, sign, k))


def contrary(machine):
    """The machine with the same steps and all other stands good."""
    need_machine(machine)
    steps, good = machine
    return (steps, tuple([stand for stand in range(len(steps)) if stand not in good]))


def pair_behind(one, other, pair, sign):
    """The pair of stands to which two machines come from a pair by one throw."""
    return (one[0][pair[0]][sign], other[0][pair[1]][sign])


def met_pairs(one, other):
    """The pairs of stands come to together, in the order of 5.4, each with the first row to it."""
    rows = {(0, 0): ()}
    pairs = [(0, 0)]
    # Pairs come in the order of their first rows where each one's next are looked at in turn.
    at = 0
    while at < len(pairs):
        pair = pairs[at]
        for sign in range(signs_read(one)):
            behind = pair_behind(one, other, pair, sign)
            if behind not in rows:
                rows[behind] = rows[pair] + (sign,)
                pairs.append(behind)
        at += 1
    return rows


def good_many(one, other, pair):
    """How many of two machines, none, one or both, are at a good stand."""
    return len([stand for machine, stand in zip((one, other), pair) if stand in machine[1]])


def joined(one, other, wanted):
    """The machine that takes the rows that at least wanted of two machines take."""
    need_alike(one, other)
    pairs = list(met_pairs(one, other))
    if len(pairs) > MOST_STANDS:
        raise TooGreat(len(pairs), MOST_STANDS)
    numbers = {pair: number for number, pair in enumerate(pairs)}
    steps = [tuple([numbers[pair_behind(one, other, pair, sign)] for sign in range(signs_read(one))])
             for pair in pairs]
    good = [numbers[pair] for pair in pairs if good_many(one, other, pair) >= wanted]
    return (tuple(steps), tuple(good))


def both(one, other):
    """The machine that takes the rows that both machines take."""
    return joined(one, other, 2)


def either(one, other):
    """The machine that takes the rows that one of the machines takes, or both do."""
    return joined(one, other, 1)


def first_alikes(machine):
    """At each stand, the first stand from which the machine takes the same rows."""
    steps, good = machine
    alikes = [1 if stand in good else 0 for stand in range(len(steps))]
    many = 0
    # Stands once told apart stay so: where none more are, none ever will be.
    while many < len(set(alikes)):
        many = len(set(alikes))
        marks = [(alike, tuple([alikes[stand] for stand in row])) for alike, row in zip(alikes, steps)]
        alikes = [marks.index(mark) for mark in marks]
    return alikes


def least(machine):
    """The machine with as few stands as can be that takes the same rows."""
    need_machine(machine)
    steps, good = machine
    alikes = first_alikes(machine)
    thinned = (tuple([tuple([alikes[stand] for stand in row]) for row in steps]), good)
    # With itself a machine comes to pairs of equal stands alone: joined leaves out and numbers stands.
    return both(thinned, thinned)


def parting(one, other):
    """The first row that one machine takes and the other does not; None where there is none."""
    need_alike(one, other)
    rows = met_pairs(one, other)
    for pair in rows:
        if good_many(one, other, pair) == 1:
            return rows[pair]
    return None
