"""A desk that keeps a die and a row of its signs, and is told rows of words."""

from throwruns.comings import half_by, mean_first
from throwruns.errors import NoLine
from throwruns.matches import first_share
from throwruns.rings import least_turn
from throwruns.rows import MOST_THROWS, longest, need_die, need_sign, ring_longest, ring_runs, runs_of
from throwruns.shared import share_upto
from throwruns.texts import numbers_read, numbers_shown, throws_shown


def things_shown(words):
    """An answer of several things, or of none."""
    return " ".join(words) if words else "none"


def share_shown(share):
    """A share as an answer."""
    top, bottom = share
    return str(top) if bottom == 1 else f"{top}/{bottom}"


def runs_shown(runs):
    """Runs as an answer."""
    return things_shown(["-".join(numbers_shown(run)) for run in runs])


# Each deed tells, of a die, a row and the numbers told with it, the die and the row behind it.


def begin_with_die(die, row, numbers):
    need_die(numbers)
    return (numbers, ())


def throw_once(die, row, numbers):
    need_sign(numbers[0], len(die))
    if len(row) >= MOST_THROWS:
        raise NoLine()
    return (die, row + numbers)


def need_throws(row):
    """Refuse where there are no throws."""
    if row == ():
        raise NoLine()


def drop_last(die, row, numbers):
    need_throws(row)
    return (die, row[:-1])


def turn_once(die, row, numbers):
    need_throws(row)
    return (die, row[1:] + row[:1])


# Each question tells, of a die, a row and the numbers told with it, the answer.


def show_die(die, row, numbers):
    return things_shown(numbers_shown(die))


def show_row(die, row, numbers):
    return things_shown(numbers_shown(row))


def show_runs(die, row, numbers):
    return runs_shown(runs_of(row))


def show_rings(die, row, numbers):
    return runs_shown(ring_runs(row))


def show_longest(die, row, numbers):
    return str(longest(row, numbers[0]))


def show_round(die, row, numbers):
    return str(ring_longest(row, numbers[0]))


def show_least(die, row, numbers):
    return things_shown(numbers_shown(least_turn(row)))


def show_upto(die, row, numbers):
    sign, k = numbers
    return share_shown(share_upto(die, sign, len(row), k))


def show_wait(die, row, numbers):
    sign, k = numbers
    return share_shown(mean_first(die, sign, k))


def show_half(die, row, numbers):
    sign, k = numbers
    by = half_by(die, sign, k)
    return "none" if by is None else str(by)


def show_first(die, row, numbers):
    return share_shown(first_share((die,) + numbers))


def show_throws(die, row, numbers):
    return throws_shown(die, row).replace("\n", " ; ")


# By the word and how many numbers follow it.
BACK = ("back", 0)
DEEDS = {
    ("die", 2): begin_with_die, ("die", 3): begin_with_die, ("throw", 1): throw_once, ("drop", 0): drop_last,
    ("turn", 0): turn_once}
QUESTIONS = {
    ("die", 0): show_die, ("row", 0): show_row, ("runs", 0): show_runs, ("rings", 0): show_rings,
    ("longest", 1): show_longest, ("round", 1): show_round, ("least", 0): show_least, ("upto", 2): show_upto,
    ("wait", 2): show_wait, ("half", 2): show_half, ("first", 4): show_first, ("shown", 0): show_throws}


def line_heard(thing):
    """The tuple (asked, numbers) of what is told to a desk: its word with how many numbers, and these."""
    if not isinstance(thing, str):
        raise NoLine()
    word, *others = thing.split(" ")
    numbers = numbers_read(others)
    asked = (word, len(numbers))
    if None in numbers or not (asked == BACK or asked in DEEDS or asked in QUESTIONS):
        raise NoLine()
    return (asked, numbers)


class Desk:
    """A desk, at first with the die (1, 1) and no throws."""

    def __init__(self):
        self.die = (1, 1)
        self.row = ()
        # The die and the row ahead of each deed that stands.
        self.past = []

    def say(self, row):
        """The answer to a row of words."""
        asked, numbers = line_heard(row)
        if asked == BACK:
            return self.undo()
        if asked in DEEDS:
            deed = DEEDS[asked]
            return self.change(deed(self.die, self.row, numbers))
        question = QUESTIONS[asked]
        return question(self.die, self.row, numbers)

    def change(self, kept):
        """Keep the die and the row behind a deed."""
        self.past.append((self.die, self.row))
        self.die, self.row = kept
        return "ok"

    def undo(self):
        """Keep again what was kept ahead of the last deed that stands."""
        if not self.past:
            raise NoLine()
        self.die, self.row = self.past.pop()
        return "ok"
