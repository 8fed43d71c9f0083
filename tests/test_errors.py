"""The errors: what they are, and what they tell."""

import unittest

from whomayname import errors
from whomayname.errors import AccessError, Barred, Shut

NAMES = ("Unknown", "Taken", "Sealed", "Joined", "Misfit", "Narrow", "Unlike", "Shut", "Barred")
MARK = ("a", "f", "read")
STANCE = ("package", "any")


class Errors(unittest.TestCase):
    def test_access_error_is_a_direct_value_error(self):
        self.assertEqual(AccessError.__bases__, (ValueError,))

    def test_each_error_is_a_direct_access_error(self):
        for name in NAMES:
            self.assertEqual(getattr(errors, name).__bases__, (AccessError,), name)

    def test_fields(self):
        for name in ("AccessError",) + NAMES:
            error = getattr(errors, name)("a")
            self.assertEqual((error.what, error.row), ("a", None), name)
            error = getattr(errors, name)(MARK, 0)
            self.assertEqual((error.what, error.row), (MARK, 0), name)
            error = getattr(errors, name)(None, 7)
            self.assertEqual((error.what, error.row), (None, 7), name)

    def test_only_barred_has_why(self):
        for name in NAMES:
            self.assertEqual(hasattr(getattr(errors, name)("a"), "why"), name == "Barred")

    def test_message_tells_error_row_and_what(self):
        self.assertEqual(str(errors.Taken("a")), "Taken: 'a'")
        self.assertEqual(str(errors.Taken("a", 2)), "row 2: Taken: 'a'")


class Bar(unittest.TestCase):
    def barred(self, *more):
        with self.assertRaises(Barred) as caught:
            errors.bar(MARK, "private", STANCE, *more)
        return caught.exception

    def test_fields_of_barred(self):
        error = self.barred()
        self.assertEqual(error.what, MARK)
        self.assertEqual(error.why, ("private", STANCE))
        self.assertIsNone(error.row)
        self.assertEqual(self.barred(3).row, 3)

    def test_barred_is_raised_from_shut(self):
        cause = self.barred(3).__cause__
        self.assertIs(type(cause), Shut)
        self.assertEqual(cause.what, "private")
        self.assertEqual(cause.row, 3)


if __name__ == "__main__":
    unittest.main()
