"""Point 2 and calmword/errors.py: the refusals."""

import copy
import pickle
import unittest

from calmword import errors
from calmword.errors import (
    BadLetters, BadRoom, BadRow, BadText, CalmError, NoLetter, NoName, NoRow, NotCalm, NotClosed,
    OtherLetters, TooLong, TooMany)

PLAIN = [BadLetters, OtherLetters, TooLong, NotCalm, NoRow]
WITH_FIELD = [
    (BadRoom, "room", 3, 0), (NoLetter, "at", 0, 7), (BadText, "at", 2, 0), (TooMany, "at", 0, 5),
    (BadRow, "at", 9, 1), (NotClosed, "names", ("x", "y"), ("ab",)), (NoName, "name", "me", "")]
ALL = PLAIN + [row[0] for row in WITH_FIELD]


class Refusals(unittest.TestCase):
    def test_calm_error_stands_under_value_error(self):
        self.assertEqual(CalmError.__bases__, (ValueError,))

    def test_there_are_twelve_and_each_is_right_under_calm_error(self):
        self.assertEqual(len(ALL), 12)
        for refusal in ALL:
            self.assertEqual(refusal.__bases__, (CalmError,), refusal)

    def test_none_stands_under_another(self):
        for refusal in ALL:
            for other in ALL:
                self.assertEqual(issubclass(refusal, other), refusal is other)

    def test_the_file_holds_no_other_refusal(self):
        found = [value for value in vars(errors).values() if isinstance(value, type)]
        self.assertCountEqual(found, ALL + [CalmError])

    def test_those_without_brackets_are_made_of_nothing(self):
        for refusal in PLAIN:
            self.assertIsInstance(refusal(), CalmError)
            self.assertEqual(vars(refusal()), {})

    def test_the_others_have_the_field_of_their_brackets(self):
        for refusal, field, value, other in WITH_FIELD:
            self.assertEqual(vars(refusal(value)), {field: value})
            self.assertEqual(vars(refusal(**{field: other})), {field: other})
            self.assertRaises(TypeError, refusal)

    def test_two_made_one_behind_the_other_keep_their_own(self):
        for refusal, field, value, other in WITH_FIELD:
            one = refusal(value)
            two = refusal(other)
            self.assertEqual(getattr(one, field), value)
            self.assertEqual(getattr(two, field), other)

    def test_they_are_raised_and_taken_as_value_errors(self):
        for refusal, field, value, _ in WITH_FIELD:
            with self.assertRaises(ValueError) as caught:
                raise refusal(value)
            self.assertEqual(getattr(caught.exception, field), value)

    def test_copies_keep_the_field(self):
        for refusal, field, value, _ in WITH_FIELD:
            for twin in (copy.copy(refusal(value)), pickle.loads(pickle.dumps(refusal(value)))):
                self.assertIs(type(twin), refusal)
                self.assertEqual(getattr(twin, field), value)


if __name__ == "__main__":
    unittest.main()
