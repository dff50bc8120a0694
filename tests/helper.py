"""What several test files need: things of all kinds, all short rows, refusals."""

import itertools

FORTY_FIGURES = 10 ** 40 - 1


def nested(depth, kind):
    """Lists, tuples or dicts in one another, so many deep."""
    thing = 1
    for step in range(depth):
        thing = {"in": thing} if kind is dict else kind([thing])
    return thing


# None of these is a die, a row, a sign or a share.
OTHER_THINGS = [
    None, True, False, FORTY_FIGURES, -FORTY_FIGURES, -1, 3, 10,
    "", "0", "01", "(0, 1)", "~" * 100,
    [], [0], [0, 1], [1, 1], [0, 1, 2], [None], list(range(1000)),
    {}, {0: 1}, {0: 0, 1: 1}, {"die": (1, 1)}, {1: [2]},
    (None,), (None, None), ("0", "1"), ("1", "1"), ([], []), ({}, {}), ((), ()),
    ((0, 1), (0, 1)), ((1, 1),), ([0], 1), (0, [1]), (1, {}), ({0: 1}, 1),
    (True, True), (False, True), (True,), (False,), (1, True), (False, 1),
    (FORTY_FIGURES, FORTY_FIGURES), (-FORTY_FIGURES,) * 3,
    tuple(range(1000)), (1,) * 1000, (0,) * 21,
    nested(8, list), nested(8, tuple), nested(8, dict),
    (nested(7, tuple), nested(7, tuple)), (1, nested(7, list)), (nested(7, dict), 1),
]

# None of these is a sign that a row may have.
NO_SIGNS = [-1, 3, 4, True, False, None, "0", "", [0], (0,), (), {}, {0: 0},
            FORTY_FIGURES, -FORTY_FIGURES, nested(8, list)]


def short_rows(most, signs=3):
    """All rows of at most so many throws."""
    for many in range(most + 1):
        yield from itertools.product(range(signs), repeat=many)


def refused_with(case, error, function, *arguments):
    """Check that a call is refused with just this class; tell the refusal."""
    with case.assertRaises(error) as caught:
        function(*arguments)
    case.assertIs(type(caught.exception), error)
    return caught.exception
