"""The refusals [2, interface]."""

import unittest

from readtell import errors
from readtell.errors import Fails, FailsWithin, FormError, NoBook, NoKept, NoLine, NotLet, NoText, NoWorth


class Refusals(unittest.TestCase):
    def test_each_stands_straight_under_form_error(self):
        self.assertEqual(FormError.__bases__, (ValueError,))
        for refusal in (NoWorth, NoText, NoBook, NotLet, NoLine, NoKept, Fails, FailsWithin):
            self.assertEqual(refusal.__bases__, (FormError,))
            self.assertEqual(refusal.__module__, errors.__name__)

    def test_made_with_a_text(self):
        for refusal in (NoWorth, NoText, NoBook, NotLet, NoLine, NoKept):
            with self.assertRaises(FormError) as caught:
                raise refusal("why so")
            self.assertIs(type(caught.exception), refusal)
            self.assertEqual(str(caught.exception), "why so")

    def test_fails_has_its_values(self):
        with self.assertRaises(FormError) as caught:
            raise Fails(3, "ab", False)
        self.assertIs(type(caught.exception), Fails)
        self.assertEqual((3, "ab", False), values(caught.exception, "place", "wants", "end"))

    def test_fails_within_has_its_values(self):
        with self.assertRaises(FormError) as caught:
            raise FailsWithin(3, 5, "ab", True)
        self.assertIs(type(caught.exception), FailsWithin)
        self.assertEqual((3, 5, "ab", True), values(caught.exception, "place", "inner", "wants", "end"))


def values(refusal, *names):
    return tuple(getattr(refusal, name) for name in names)


if __name__ == "__main__":
    unittest.main()
