"""The desk [10.2 to 10.4, with 0.2 to 0.4]."""

import copy
import random
import unittest

from tests.helper import OTHER_THINGS, nested, refused_with
from throwruns.comings import half_by, mean_first
from throwruns.desk import Desk
from throwruns.errors import NoDie, NoLine, NoNumber, ThrowError
from throwruns.matches import first_share
from throwruns.rings import least_turn
from throwruns.rows import longest, ring_longest, ring_runs, runs_of
from throwruns.shared import share_upto
from throwruns.texts import throws_read, throws_shown

PLAIN_QUESTIONS = ["die", "row", "runs", "rings", "least", "shown"]
QUESTIONS = PLAIN_QUESTIONS + ["longest 0", "longest 1", "longest 2", "round 0", "round 1", "round 2", "upto 0 1",
                               "upto 1 0", "upto 1 40", "wait 0 1", "wait 1 8", "half 0 1", "half 1 3", "half 0 8",
                               "first 0 2 1 1", "first 1 6 0 6", "first 1 1 0 3"]
TWENTY = "99999999999999999999"

# None of these is a row that a desk knows, whatever it keeps.
NO_LINES = [
    "", " ", "\n", "x", "dice", "Die", "DIE", "ok", "none", "say", "quit", "0", "1", "-", ";", "~" * 100, "a" * 2000,
    "die ", " die", "die\n", "\ndie", "die 1", "die 1 ", "die  1 1", "die 1  1", "die 1 1 ", " die 1 1", "die 1 1 1 1",
    "die 01 1", "die 1 01", "die +1 1", "die -1 1", "die 1 -1", "die 1 x", "die x 1", "die 1.0 1", "die 1,1",
    "die 1 1\n",
    "die 1\n1", "die 1 1\nrow", "die 1 1 ; row", "die 1 1 00", "die 1 100000000000000000000", "die 0 00", "die 1 1 1 0",
    "throw", "throw ", "throw  0", "throw 0 ", "throw 0 1", "throw 00", "throw 01", "throw -1", "throw +1", "throw x",
    "throw 0\n", "throw\n0", "throw 1" + "0" * 20, "throw none", "throw 0\nthrow 0", "Throw 0", "throws 0", "throw0",
    "drop ", "drop 1", "drop 0", "drops", "drop\n", "turn ", "turn 1", "turn 0", "turn\n", "back ", "back 1",
    "back back",
    "back\n", " back", "row ", "row 0", "row 0 1", "row\n", "runs 0", "runs ", "run", "rings 0", "ring", "longest",
    "longest ", "longest 0 1", "longest x", "longest 00", "longest -1", "round", "round 0 0", "round 01", "least 0",
    "least ", "upto", "upto 0", "upto 0 1 2", "upto 0 01", "upto x 1", "upto 0  1", "upto 0 -1", "wait", "wait 0",
    "wait 0 1 2", "wait 0 +1", "half", "half 0", "half 0 1 1", "half 0 1 ", "first", "first 0 1 1", "first 0 1 1 1 1",
    "first 0 1 1 01", "first 0 1 1 x", "first 0 1 1 1 ", "shown 0", "shown ", "show", "shown\n", "die\trow", "die;row"]


def written(words):
    """Things with one blank between each two, none of none."""
    return " ".join([str(word) for word in words]) if words else "none"


def share_written(share):
    """A share as 10.3 tells."""
    return str(share[0]) if share[1] == 1 else str(share[0]) + "/" + str(share[1])


def runs_written(runs):
    """Runs as 10.3 tells."""
    return written([f"{sign}-{begin}-{length}" for sign, begin, length in runs])


def answer_by_the_words(die, row, asked):
    """What a question is answered of a die and a row, as 10.3 tells."""
    word, *numbers = asked.split(" ")
    numbers = [int(number) for number in numbers]
    plain = {"die": written(die), "row": written(row), "runs": runs_written(runs_of(row)),
             "rings": runs_written(ring_runs(row)), "least": written(least_turn(row)),
             "shown": throws_shown(die, row).replace("\n", " ; ")}
    if word in plain:
        return plain[word]
    if word == "longest":
        return str(longest(row, *numbers))
    if word == "round":
        return str(ring_longest(row, *numbers))
    if word == "upto":
        return share_written(share_upto(die, numbers[0], len(row), numbers[1]))
    if word == "wait":
        return share_written(mean_first(die, *numbers))
    if word == "half":
        by = half_by(die, *numbers)
        return "none" if by is None else str(by)
    return share_written(first_share((die, *numbers)))


def kept_by_the_words(deeds):
    """The die and the row behind deeds that stand, in their order."""
    die, row = (1, 1), ()
    for deed in deeds:
        word, *numbers = deed.split(" ")
        if word == "die":
            die, row = tuple([int(number) for number in numbers]), ()
        if word == "throw":
            row = row + (int(numbers[0]),)
        if word == "drop":
            row = row[:-1]
        if word == "turn":
            row = row[1:] + row[:1]
    return die, row


def told(desk, rows):
    """Tell a desk several rows, one at a time; tell the desk."""
    for row in rows:
        desk.say(row)
    return desk


def state(desk):
    """What a desk keeps, as it answers."""
    return [desk.say(question) for question in PLAIN_QUESTIONS]


def said(desk, row):
    """The answer, or the class of the refusal."""
    try:
        return desk.say(row)
    except ThrowError as refusal:
        return type(refusal)


class DeedsTest(unittest.TestCase):

    def test_at_first(self):
        desk = Desk()
        self.assertEqual(state(desk), ["1 1", "none", "none", "none", "none", "die 1 1 ; row"])
        refused_with(self, NoLine, desk.say, "back")

    def test_die(self):
        for line, die in [("die 1 2", "1 2"), ("die 9 9", "9 9"), ("die 1 2 3", "1 2 3"), ("die 9 1 9", "9 1 9")]:
            desk = told(Desk(), ["throw 0", "throw 1"])
            self.assertEqual(desk.say(line), "ok")
            self.assertEqual((desk.say("die"), desk.say("row")), (die, "none"))
            self.assertEqual(desk.say("back"), "ok")
            self.assertEqual((desk.say("die"), desk.say("row")), ("1 1", "0 1"))

    def test_no_die(self):
        desk = told(Desk(), ["die 1 2 3", "throw 2"])
        kept = state(desk)
        for line in ["die 0 1", "die 1 0", "die 10 1", "die 1 10", "die 0 0", "die 0 1 1", "die 1 0 1", "die 1 1 0",
                     "die 1 1 10", "die 10 10 10", f"die {TWENTY} 1", f"die 1 {TWENTY}", f"die 1 1 {TWENTY}"]:
            refused_with(self, NoDie, desk.say, line)
            self.assertEqual(state(desk), kept)
        self.assertEqual(told(desk, ["back"]).say("row"), "none")

    def test_throw(self):
        desk = Desk()
        for many, sign in enumerate((0, 1, 1, 0, 1)):
            self.assertEqual(desk.say(f"throw {sign}"), "ok")
            self.assertEqual(desk.say("row"), " ".join(["0", "1", "1", "0", "1"][:many + 1]))
        kept = state(desk)
        for line in ["throw 2", "throw 3", "throw 10", f"throw {TWENTY}"]:
            refused_with(self, NoNumber, desk.say, line)
            self.assertEqual(state(desk), kept)
        desk = told(Desk(), ["die 1 1 1", "throw 2"])
        self.assertEqual(desk.say("row"), "2")
        refused_with(self, NoNumber, desk.say, "throw 3")

    def test_twenty_throws(self):
        for die, wrong in [("die 1 1", "throw 2"), ("die 1 2 3", "throw 3")]:
            desk = told(Desk(), [die] + ["throw 1", "throw 0"] * 9 + ["throw 1"])
            self.assertEqual(desk.say("throw 1"), "ok")
            kept = state(desk)
            for line in ("throw 0", "throw 1"):
                refused_with(self, NoLine, desk.say, line)
            refused_with(self, NoNumber, desk.say, wrong)
            refused_with(self, NoNumber, desk.say, f"throw {TWENTY}")
            self.assertEqual(state(desk), kept)
            self.assertEqual(desk.say("turn"), "ok")
            self.assertEqual(desk.say("row"), " ".join(["0", "1"] * 9 + ["1", "1"]))
            refused_with(self, NoLine, desk.say, "throw 0")
            self.assertEqual(told(desk, ["drop", "throw 0"]).say("row"), " ".join(["0", "1"] * 9 + ["1", "0"]))
            refused_with(self, NoLine, desk.say, "throw 0")

    def test_drop_and_turn(self):
        desk = Desk()
        for line in ("drop", "turn"):
            refused_with(self, NoLine, desk.say, line)
        refused_with(self, NoLine, desk.say, "back")
        told(desk, ["die 1 1 1", "throw 0", "throw 1", "throw 2"])
        self.assertEqual(desk.say("turn"), "ok")
        self.assertEqual(desk.say("row"), "1 2 0")
        self.assertEqual(desk.say("drop"), "ok")
        self.assertEqual(desk.say("row"), "1 2")
        told(desk, ["drop", "turn"])
        self.assertEqual(desk.say("row"), "1")
        told(desk, ["drop"])
        self.assertEqual(desk.say("row"), "none")
        for line in ("drop", "turn"):
            refused_with(self, NoLine, desk.say, line)
        # The deeds that were refused do not stand.
        self.assertEqual(told(desk, ["back"]).say("row"), "1")

    def test_back(self):
        desk = told(Desk(), ["throw 0", "throw 1"])
        self.assertEqual(desk.say("back"), "ok")
        self.assertEqual(desk.say("row"), "0")
        self.assertEqual(desk.say("back"), "ok")
        self.assertEqual(desk.say("row"), "none")
        refused_with(self, NoLine, desk.say, "back")
        # What is undone does not come again with `back`, nor what was told behind it.
        told(desk, ["throw 1", "throw 1", "back", "throw 0", "back"])
        self.assertEqual(desk.say("row"), "1")
        told(desk, ["back"])
        refused_with(self, NoLine, desk.say, "back")
        # A turn of one throw changes nothing, yet it is a deed; so is the same die once more.
        told(desk, ["throw 1", "turn", "back"])
        self.assertEqual(desk.say("row"), "1")
        told(desk, ["die 1 1", "die 1 1", "back"])
        self.assertEqual(desk.say("row"), "none")
        self.assertEqual(told(desk, ["back"]).say("row"), "1")

    def test_back_undoes_neither_questions_nor_refusals(self):
        desk = told(Desk(), ["throw 0"])
        for line in QUESTIONS + NO_LINES + ["throw 2", "die 0 1", "longest 3", "first 0 1 0 1"]:
            said(desk, line)
        self.assertEqual(told(desk, ["back"]).say("row"), "none")
        refused_with(self, NoLine, desk.say, "back")

    def test_back_through_long_rows_of_deeds(self):
        desk, deeds = Desk(), []
        chance = random.Random(11)
        while len(deeds) < 1500:
            deed = chance.choice(["die 1 2", "throw 0", "throw 1", "throw 1", "throw 0", "throw 1", "drop", "turn",
                                  "die 2 3 4", "throw 2", "throw 1"])
            if said(desk, deed) == "ok":
                deeds.append(deed)
        while deeds:
            die, row = kept_by_the_words(deeds)
            self.assertEqual((desk.say("die"), desk.say("row")), (written(die), written(row)), len(deeds))
            self.assertEqual(desk.say("back"), "ok")
            deeds.pop()
        self.assertEqual(desk.say("shown"), "die 1 1 ; row")
        refused_with(self, NoLine, desk.say, "back")


class QuestionsTest(unittest.TestCase):

    def test_told(self):
        desk = told(Desk(), ["die 1 2 3", "throw 2", "throw 0", "throw 0", "throw 2", "throw 1", "throw 2"])
        for asked, answer in [
                ("die", "1 2 3"), ("row", "2 0 0 2 1 2"), ("runs", "2-0-1 0-1-2 2-3-1 1-4-1 2-5-1"),
                ("rings", "0-1-2 2-3-1 1-4-1 2-5-2"), ("longest 0", "2"), ("longest 2", "1"), ("round 2", "2"),
                ("round 1", "1"), ("least", "0 0 2 1 2 2"), ("upto 0 6", "1"), ("upto 0 0", "15625/46656"),
                ("upto 2 40", "1"), ("wait 2 1", "2"), ("wait 1 2", "12"), ("half 2 1", "1"), ("half 0 8", "none"),
                ("first 0 1 1 1", "1/3"), ("first 2 1 0 3", "129/130"), ("shown", "die 1 2 3 ; row 2 0 0 2 1 2")]:
            self.assertEqual(desk.say(asked), answer, asked)

    def test_no_throws(self):
        desk = Desk()
        for asked, answer in [
                ("row", "none"), ("runs", "none"), ("rings", "none"), ("least", "none"), ("longest 0", "0"),
                ("longest 2", "0"), ("round 1", "0"), ("upto 0 0", "1"), ("wait 0 3", "14"), ("half 0 3", "10"),
                ("first 0 2 1 1", "1/4"), ("shown", "die 1 1 ; row")]:
            self.assertEqual(desk.say(asked), answer, asked)

    def test_shares(self):
        desk = told(Desk(), ["die 1 2", "throw 1", "throw 1"])
        self.assertEqual([desk.say(f"upto 1 {k}") for k in (0, 1, 2, 40)], ["1/9", "5/9", "1", "1"])
        self.assertEqual([desk.say(f"wait 1 {k}") for k in (1, 2)], ["3/2", "15/4"])

    def test_as_the_functions_tell(self):
        for begin in (["die 1 1"], ["die 9 1"], ["die 1 2 3"], ["die 7 7 7"]):
            desk = told(Desk(), begin)
            for deed in 2 * ["throw 1", "throw 1", "throw 0", "throw 1", "turn", "throw 0", "throw 0", "drop",
                             "throw 1"]:
                desk.say(deed)
                die, row = throws_read(desk.say("shown").replace(" ; ", "\n"))
                for asked in QUESTIONS:
                    self.assertEqual(desk.say(asked), answer_by_the_words(die, row, asked), (die, row, asked))

    def test_greatest_numbers(self):
        desk = told(Desk(), ["die 9 8 7"] + ["throw 2", "throw 1"] * 10)
        die, row = (9, 8, 7), (2, 1) * 10
        for asked in ["upto 2 1", "upto 1 20", "upto 0 40", "wait 2 8", "half 2 8", "half 0 2", "first 0 6 2 6",
                      "first 2 6 1 1", "longest 0", "round 2", "runs", "rings", "least", "shown"]:
            self.assertEqual(desk.say(asked), answer_by_the_words(die, row, asked), asked)

    def test_refused_as_there(self):
        for begin, many in [("die 1 2", 2), ("die 1 2 3", 3)]:
            desk = told(Desk(), [begin, "throw 0"])
            kept = state(desk)
            for asked in ["longest 3", "longest 10", f"longest {TWENTY}", "round 3", f"round {TWENTY}",
                          f"upto {many} 1",
                          "upto 0 41", f"upto {TWENTY} 1", f"upto 0 {TWENTY}", f"wait {many} 1", "wait 0 0", "wait 0 9",
                          f"half {many} 1", "half 0 0", "half 0 9", f"half 0 {TWENTY}"]:
                refused_with(self, NoNumber, desk.say, asked)
            for asked in ["first 0 1 0 1", f"first {many} 1 0 1", f"first 0 1 {many} 1", "first 0 0 1 1",
                          "first 0 1 1 0", "first 0 7 1 1", "first 0 1 1 7", f"first 0 {TWENTY} 1 1", "first 3 3 3 3"]:
                refused_with(self, NoLine, desk.say, asked)
            self.assertEqual(state(desk), kept)
        # A row's sign may be 2 though the die has none.
        self.assertEqual(Desk().say("longest 2"), "0")
        self.assertEqual(Desk().say("round 2"), "0")

    def test_what_is_asked_changes_nothing(self):
        desk = told(Desk(), ["die 1 2 3", "throw 2", "throw 0", "turn", "throw 1"])
        first = [desk.say(asked) for asked in QUESTIONS]
        again = [desk.say(asked) for asked in reversed(QUESTIONS)]
        self.assertEqual(again[::-1], first)
        for deed, row in [("back", "0 2"), ("back", "2 0"), ("back", "2"), ("back", "none")]:
            desk.say(deed)
            self.assertEqual(desk.say("row"), row)

    def test_answers_are_texts(self):
        desk = told(Desk(), ["throw 1"])
        for line in QUESTIONS + ["throw 0", "turn", "drop", "back", "die 1 2"]:
            self.assertIs(type(desk.say(line)), str)


class NoLinesTest(unittest.TestCase):

    def test_other_things(self):
        for begin in ([], ["throw 1"], ["die 1 2 3", "throw 2", "throw 0", "turn"]):
            desk = told(Desk(), begin)
            kept = state(desk)
            for thing in OTHER_THINGS + [0, 1, ["die"], ("die",), ("die", "1", "1"), ("back", 0), {"die": 0}, b"die",
                                         ["throw", "0"], nested(8, list)]:
                if not isinstance(thing, str):
                    before = copy.deepcopy(thing)
                    refused_with(self, NoLine, desk.say, thing)
                    self.assertEqual(thing, before)
            self.assertEqual(state(desk), kept)

    def test_rows_that_are_none(self):
        for begin in ([], ["throw 1"], ["die 1 2 3", "throw 2", "throw 0", "turn"], ["throw 0"] * 20):
            desk = told(Desk(), begin)
            kept = state(desk)
            for line in NO_LINES:
                refused_with(self, NoLine, desk.say, line)
            self.assertEqual(state(desk), kept)
            for time in begin:
                desk.say("back")
            refused_with(self, NoLine, desk.say, "back")

    def test_ahead_of_all_else(self):
        # Each has another thing wrong, too, that would be refused otherwise.
        for line in ["die 0", "die 0 01", "die 0 1 x", "die 10 10 10 10", "throw 9 9", "throw 09", "longest 9 9",
                     "longest 09", "upto 9", "upto 9 099", "wait 9 9 9", "wait 9 +9", "half 9", "half 9 x"]:
            refused_with(self, NoLine, told(Desk(), ["throw 0"]).say, line)

    def test_numbers_of_twenty_figures_and_more(self):
        desk = told(Desk(), ["throw 0"])
        for word in ("throw", "longest", "round"):
            refused_with(self, NoNumber, desk.say, f"{word} {TWENTY}")
            refused_with(self, NoLine, desk.say, f"{word} 1{'0' * 20}")
            refused_with(self, NoLine, desk.say, f"{word} {'0' * 20}")
            refused_with(self, NoLine, desk.say, f"{word} {'0' * 19}1")
            refused_with(self, NoLine, desk.say, f"{word} {'1' * 1900}")
        refused_with(self, NoDie, desk.say, f"die {TWENTY} {TWENTY}")
        refused_with(self, NoLine, desk.say, f"die {TWENTY} 9{TWENTY}")

    def test_one_sign_more_fewer_and_other(self):
        known = {}
        signs = [chr(code) for code in range(32, 127) if code != 37] + ["\n"]
        for line in ["throw 1", "drop", "turn", "back", "die 1 2", "die 1 2 3"] + QUESTIONS:
            for at in range(len(line) + 1):
                for other in [line[:at] + line[at + 1:]] + [line[:at] + sign + line[at:] for sign in signs]:
                    desk = told(Desk(), ["throw 1", "throw 0"])
                    answer = said(desk, other)
                    words = other.split(" ")
                    numbers = [word for word in words[1:] if word.isdigit() and (word == "0" or word[0] != "0")]
                    due = {"die": (0, 2, 3), "throw": (1,), "drop": (0,), "turn": (0,), "back": (0,), "row": (0,),
                           "runs": (0,), "rings": (0,), "longest": (1,), "round": (1,), "least": (0,), "upto": (2,),
                           "wait": (2,), "half": (2,), "first": (4,), "shown": (0,)}.get(words[0], ())
                    if len(numbers) != len(words) - 1 or len(numbers) not in due:
                        self.assertIs(answer, NoLine, other)
                    elif words[0] != "first":
                        self.assertIsNot(answer, NoLine, other)
                    known[answer] = other
        self.assertLessEqual({"ok", NoDie, NoNumber, NoLine, "1 1"}, set(known))


class DesksTest(unittest.TestCase):

    def test_two_desks_have_nothing_in_common(self):
        one, other = Desk(), Desk()
        told(one, ["die 1 2 3", "throw 2"])
        self.assertEqual(state(other), state(Desk()))
        refused_with(self, NoLine, other.say, "back")
        told(other, ["throw 0", "throw 1"])
        self.assertEqual((one.say("shown"), other.say("shown")), ("die 1 2 3 ; row 2", "die 1 1 ; row 0 1"))
        told(one, ["back"])
        self.assertEqual((one.say("shown"), other.say("shown")), ("die 1 2 3 ; row", "die 1 1 ; row 0 1"))
        self.assertEqual(Desk().say("shown"), "die 1 1 ; row")

    def test_answers_hang_on_the_deeds_that_stand(self):
        chance = random.Random(7)
        lines = ["die 1 2", "die 3 2 1", "die 0 1", "die 9 9 9", "throw 0", "throw 1", "throw 1", "throw 2", "throw 2",
                 "throw 0", "drop", "turn", "turn", "back", "back", "x", "throw 9", "die 01 1", "back 1"] + QUESTIONS
        for time in range(60):
            desk, deeds = Desk(), []
            for step in range(80):
                line = chance.choice(lines)
                answer = said(desk, line)
                word = line.split(" ")[0]
                if line == "back":
                    self.assertEqual(answer, "ok" if deeds else NoLine)
                    deeds = deeds[:-1]
                elif answer == "ok":
                    deeds.append(line)
                die, row = kept_by_the_words(deeds)
                if line in QUESTIONS:
                    self.assertEqual(answer, answer_by_the_words(die, row, line))
                if word == "throw" and answer != "ok":
                    self.assertIn((answer, len(row) == 20), [(NoNumber, False), (NoNumber, True), (NoLine, True)])
                self.assertEqual(desk.say("shown"), throws_shown(die, row).replace("\n", " ; "))
            # A desk that is told just the deeds that stand answers the same.
            other = told(Desk(), deeds)
            self.assertEqual([other.say(asked) for asked in QUESTIONS], [desk.say(asked) for asked in QUESTIONS])


if __name__ == "__main__":
    unittest.main()
