"""The refusals [0.4, and the interface's throwruns/errors.py]."""

import unittest

from throwruns.errors import (NoDie, NoLine, NoMachine, NoNumber, NoPaper,
                              NoRow, NoText, ThrowError, TooGreat)

PLAIN = [NoDie, NoRow, NoNumber, NoLine, NoMachine, NoPaper]


class ErrorsTest(unittest.TestCase):

    def test_throw_error_stands_straight_under_value_error(self):
        self.assertEqual(ThrowError.__bases__, (ValueError,))

    def test_each_stands_straight_under_throw_error(self):
        for error in PLAIN + [NoText, TooGreat]:
            with self.subTest(error=error):
                self.assertEqual(error.__bases__, (ThrowError,))

    def test_each_has_a_class_of_its_own(self):
        names = [error.__name__ for error in PLAIN + [NoText, TooGreat]]
        self.assertEqual(names, ["NoDie", "NoRow", "NoNumber", "NoLine", "NoMachine",
                                 "NoPaper", "NoText", "TooGreat"])
        self.assertEqual(len({id(error) for error in PLAIN + [NoText, TooGreat]}), 8)

    def test_plain_ones_are_made_of_nothing(self):
        for error in PLAIN:
            with self.subTest(error=error):
                with self.assertRaises(ThrowError) as caught:
                    raise error()
                self.assertIs(type(caught.exception), error)

    def test_no_text_has_its_row(self):
        for row in (0, 1, 2, 3):
            with self.subTest(row=row):
                self.assertEqual(NoText(row).row, row)

    def test_too_great_has_many_and_most(self):
        refusal = TooGreat(501, 500)
        self.assertEqual((refusal.many, refusal.most), (501, 500))

    def test_fields_belong_to_the_object(self):
        one, other = TooGreat(13, 12), TooGreat(400, 300)
        self.assertEqual((one.many, one.most, other.many, other.most), (13, 12, 400, 300))
        first, second = NoText(1), NoText(2)
        self.assertEqual((first.row, second.row), (1, 2))

    def test_those_with_fields_take_just_these(self):
        self.assertRaises(TypeError, NoText)
        self.assertRaises(TypeError, TooGreat, 1)


if __name__ == "__main__":
    unittest.main()
