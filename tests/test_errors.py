"""The errors: their family, and what they hold."""

import unittest

from changetables import errors


class Family(unittest.TestCase):
    def test_change_error_is_a_value_error(self):
        self.assertEqual(errors.ChangeError.__bases__, (ValueError,))

    def test_all_are_direct_subclasses(self):
        for name in ("BadKinds", "BadChange", "BadText", "CannotDo", "BadTable", "SameHand", "BadNumber"):
            with self.subTest(name):
                self.assertEqual(getattr(errors, name).__bases__, (errors.ChangeError,))


class Attributes(unittest.TestCase):
    def test_they_hold_what_they_are_made_with(self):
        entry = ("put", "cut", 2, True)
        for made, attribute, held in (
                (errors.BadKinds, "name", "put"), (errors.BadKinds, "name", None),
                (errors.BadChange, "place", 2), (errors.BadChange, "place", None),
                (errors.CannotDo, "place", 2), (errors.CannotDo, "place", None),
                (errors.BadTable, "entry", entry), (errors.BadTable, "entry", None)):
            with self.subTest(made=made, held=held):
                with self.assertRaises(errors.ChangeError) as caught:
                    raise made(held)
                self.assertEqual(getattr(caught.exception, attribute), held)

    def test_those_without_attributes_are_made_with_a_text(self):
        for made in (errors.BadText, errors.SameHand, errors.BadNumber, errors.ChangeError):
            with self.subTest(made=made):
                with self.assertRaises(ValueError) as caught:
                    raise made("some words")
                self.assertEqual(str(caught.exception), "some words")


if __name__ == "__main__":
    unittest.main()
