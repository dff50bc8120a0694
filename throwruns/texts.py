"""A die and a row of its signs as a text, written and read."""

from throwruns.errors import NoRow, NoText
from throwruns.rows import die_good, need_die, row_good_of

MOST_FIGURES = 20


def number_read(word):
    """The number that a word writes, None where it writes none."""
    if not word.isascii() or not word.isdigit() or len(word) > MOST_FIGURES:
        return None
    if word[0] == "0" and word != "0":
        return None
    return int(word)


def numbers_read(words):
    """The tuple of the numbers that words write, None in place of each that writes none."""
    return tuple([number_read(word) for word in words])


def numbers_shown(numbers):
    """The list of the words that write numbers."""
    return [str(number) for number in numbers]


def line_shown(word, numbers):
    """A row of a text: a word, and numbers behind it."""
    return " ".join([word] + numbers_shown(numbers))


def line_read(word, line):
    """The numbers behind the word in a row of a text, None where it does not begin with the word."""
    first, *others = line.split(" ")
    return numbers_read(others) if first == word else None


def throws_shown(die, row):
    """The text of a die and a row of its signs."""
    need_die(die)
    if not row_good_of(row, len(die)):
        raise NoRow()
    return line_shown("die", die) + "\n" + line_shown("row", row)


def throws_read(text):
    """The tuple (die, row) that a text writes."""
    if not isinstance(text, str):
        raise NoText(0)
    lines = text.split("\n")
    die = line_read("die", lines[0])
    # Where a row is not so written, None stands for its numbers or among them: they make no die, and no row.
    if not die_good(die):
        raise NoText(1)
    row = line_read("row", lines[1]) if len(lines) > 1 else None
    if not row_good_of(row, len(die)):
        raise NoText(2)
    if len(lines) > 2:
        raise NoText(3)
    return (die, row)
