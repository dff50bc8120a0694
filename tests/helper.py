"""What several test files need: things of all kinds, all short rows, refusals."""

import copy
import itertools
import math

from throwruns.errors import NoNumber

FORTY_FIGURES = 10 ** 40 - 1


def nested(depth, kind):
    """Lists, tuples or dicts in one another, so many deep."""
    thing = 1
    for step in range(depth):
        thing = {"in": thing} if kind is dict else kind([thing])
    return thing


# None of these is a die, a row, a sign or a share.
OTHER_THINGS = [
    None, True, False, FORTY_FIGURES, -FORTY_FIGURES, -1, 3, 10,
    "", "0", "01", "(0, 1)", "~" * 100,
    [], [0], [0, 1], [1, 1], [0, 1, 2], [None], list(range(1000)),
    {}, {0: 1}, {0: 0, 1: 1}, {"die": (1, 1)}, {1: [2]},
    (None,), (None, None), ("0", "1"), ("1", "1"), ([], []), ({}, {}), ((), ()),
    ((0, 1), (0, 1)), ((1, 1),), ([0], 1), (0, [1]), (1, {}), ({0: 1}, 1),
    (True, True), (False, True), (True,), (False,), (1, True), (False, 1),
    (FORTY_FIGURES, FORTY_FIGURES), (-FORTY_FIGURES,) * 3,
    tuple(range(1000)), (1,) * 1000, (0,) * 21,
    nested(8, list), nested(8, tuple), nested(8, dict),
    (nested(7, tuple), nested(7, tuple)), (1, nested(7, list)), (nested(7, dict), 1),
]

# None of these is a sign that a row may have.
NO_SIGNS = [-1, 3, 4, True, False, None, "0", "", [0], (0,), (), {}, {0: 0},
            FORTY_FIGURES, -FORTY_FIGURES, nested(8, list)]

# None of these is a row of throws.
NO_ROWS = OTHER_THINGS + [
    (3,), (-1,), (0, 1, 2, 3), (0, -1), (0, 1, True), (None, 0), (0, "1"), ((0,), 1),
    0, 1, 2, [1, 2], (1,) * 21, "0 1", "row 0 1",
]

# None of these is a die.
NO_DICE = OTHER_THINGS + [
    (), (1,), (1, 1, 1, 1), (0, 1), (1, 0), (10, 1), (1, 10), (1, 1, 10), (0, 1, 1), (1, 1, 0),
    (-1, 1), (True, 1), (1, True), (1, 1, False), (None, 1), (1, "1"), "11", "1 1", [1, 2, 3], 2,
]

# None of these is a number of throws, of signs, or a length.
NO_NUMBERS = [thing for thing in OTHER_THINGS if type(thing) is not int] + [
    -1, -2, FORTY_FIGURES, -FORTY_FIGURES, "2", "40", (2,), [2], {2: 2}, (1, 1), (2, 1), [[2]]]


# What may stand in place of a part of a thing.
PARTS = [None, True, False, -1, 0, 1, 2, 3, 7, 9, 10, 12, 13, FORTY_FIGURES, -FORTY_FIGURES, "", "1", "ok",
         [], [0], (), (0,), (1, 2), (2, 4), {}, {0: 0}]


def otherwise(thing, parts=PARTS):
    """Things with one thing otherwise than in a list or tuple, at each place and how deep it may be."""
    yield from parts
    if isinstance(thing, (list, tuple)):
        kind = type(thing)
        yield list(thing) if kind is tuple else tuple(thing)
        yield from [thing[1:], thing[:-1], thing[::-1], thing + thing, kind([thing]), dict(enumerate(thing))]
        for part in list(parts) + list(thing):
            yield thing + kind([part])
            yield kind([part]) + thing
        for at, part in enumerate(thing):
            for other in otherwise(part, parts):
                yield thing[:at] + kind([other]) + thing[at + 1:]


def good_as_by_the_words(case, function, by_the_words, things):
    """Check a function that tells of whatever is handed in whether it is good; nothing is changed."""
    many = {True: 0, False: 0}
    for thing in things:
        kept = copy.deepcopy(thing)
        wanted = by_the_words(thing)
        case.assertIs(function(thing), wanted, thing)
        case.assertEqual(repr(thing), repr(kept))
        many[wanted] += 1
    case.assertGreater(min(many.values()), 0)


def asked_again(case, questions, between):
    """Check that questions (function, arguments ..) have the same answers again, whatever was asked in between."""
    first = [question[0](*question[1:]) for question in questions]
    kept = copy.deepcopy(first)
    for error, function, *arguments in between:
        refused_with(case, error, function, *arguments)
    again = [question[0](*question[1:]) for question in reversed(questions)]
    case.assertEqual(again[::-1], kept)
    case.assertEqual(first, kept)


def is_share_by_the_words(thing):
    """Whether a thing is a share, as 0.3 tells."""
    if type(thing) is not tuple or [type(number) for number in thing] != [int, int]:
        return False
    return thing[1] > 0 and math.gcd(thing[0], thing[1]) == 1


def short_rows(most, signs=3):
    """All rows of at most so many throws."""
    for many in range(most + 1):
        yield from itertools.product(range(signs), repeat=many)


def refused_with(case, error, function, *arguments):
    """Check that a call is refused with just this class; tell the refusal."""
    with case.assertRaises(error) as caught:
        function(*arguments)
    case.assertIs(type(caught.exception), error)
    return caught.exception


def runs_by_the_words(row):
    """All (sign, begin, length) for which the words of 1.3 hold."""
    runs = []
    for begin in range(len(row)):
        for end in range(begin + 1, len(row) + 1):
            sign = row[begin]
            ahead = begin > 0 and row[begin - 1] == sign
            behind = end < len(row) and row[end] == sign
            if set(row[begin:end]) == {sign} and not ahead and not behind:
                runs.append((sign, begin, end - begin))
    return runs


def ring_runs_by_the_words(row):
    """All (sign, begin, length) for which the words of 1.4 hold."""
    many = len(row)
    if many == 0:
        return []
    if len(set(row)) == 1:
        return [(row[0], 0, many)]
    runs = []
    for begin in range(many):
        for length in range(1, many):
            sign = row[begin]
            shown = {row[(begin + step) % many] for step in range(length)}
            around = (row[begin - 1], row[(begin + length) % many])
            if shown == {sign} and sign not in around:
                runs.append((sign, begin, length))
    return runs


def greatest(runs, signs):
    """The greatest length of the runs of these signs."""
    return max([run[2] for run in runs if run[0] in signs], default=0)


def refused_at_each_place(case, function, good, wrong):
    """Check what is refused, one thing wrong or two at once: the left one goes.

    For each argument, wrong has the class of the refusal and a list of things.
    """
    function(*good)
    for at, (error, things) in enumerate(wrong):
        for thing in things:
            with case.subTest(function=function.__name__, at=at, thing=thing):
                kept = copy.deepcopy(thing)
                refused_with(case, error, function, *good[:at], thing, *good[at + 1:])
                for behind in range(at + 1, len(good)):
                    for other in wrong[behind][1][:4] + wrong[behind][1][-4:]:
                        handed = list(good)
                        handed[at], handed[behind] = thing, other
                        refused_with(case, error, function, *handed)
                case.assertEqual(thing, kept)
    function(*good)


def own_list(case, function, *arguments):
    """Check that a list is told anew: what is done to it changes no later answer."""
    told = function(*arguments)
    case.assertIs(type(told), list)
    kept = list(told)
    told.append("more")
    told.reverse()
    case.assertEqual(function(*arguments), kept)
    function(*arguments).clear()
    case.assertEqual(function(*arguments), kept)


def in_range_else_refused(case, function, good, at, low, high):
    """Check that an argument may be each number from low to high and no other."""
    for number in range(low, high + 1):
        function(*good[:at], number, *good[at + 1:])
    for number in (low - 1, low - 2, high + 1, high + 2, 10 * high + 10):
        with case.subTest(function=function.__name__, at=at, number=number):
            refused_with(case, NoNumber, function, *good[:at], number, *good[at + 1:])
