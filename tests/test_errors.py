"""Tests of lackmark.errors."""

import copy
import pickle
import unittest

from lackmark import errors
from lackmark.errors import BadProgram, BadText, LackError

NAMES = ["BadData", "BadRow", "BadNumber", "BadMarks", "BadPlace", "BadProgram", "BadStand", "BadEvent", "TooLarge",
         "Unequal", "BadOffers", "BadChoice", "BadChain", "BadWish", "NothingDone", "BadText"]


class TestErrors(unittest.TestCase):

    def test_base(self):
        self.assertEqual(LackError.__bases__, (ValueError,))

    def test_direct_subclasses(self):
        for name in NAMES:
            self.assertEqual(getattr(errors, name).__bases__, (LackError,), name)

    def test_defined_here(self):
        for name in NAMES + ["LackError"]:
            self.assertEqual(getattr(errors, name).__module__, "lackmark.errors", name)

    def test_no_others(self):
        found = [name for name in vars(errors) if isinstance(getattr(errors, name), type)]
        self.assertEqual(sorted(found), sorted(NAMES + ["LackError"]))

    def test_each_is_caught_as_itself(self):
        for name in NAMES:
            with self.assertRaises(getattr(errors, name)):
                raise getattr(errors, name)("some")

    def test_part(self):
        for part in ["TOP", "MARKS", "BEGIN", "STEPS", None]:
            self.assertEqual(BadProgram(part).part, part)
        self.assertIsNone(BadProgram().part)

    def test_row(self):
        for row in [0, 1, 305]:
            self.assertEqual(BadText(row).row, row)
        self.assertEqual(BadText().row, 0)

    def test_attributes_are_of_the_objects(self):
        self.assertFalse(hasattr(BadProgram, "part"))
        self.assertFalse(hasattr(BadText, "row"))
        self.assertIn("part", vars(BadProgram("TOP")))
        self.assertIn("row", vars(BadText(3)))

    def test_message_names_what_is_wrong(self):
        self.assertIn("BEGIN", str(BadProgram("BEGIN")))
        self.assertIn("17", str(BadText(17)))

    def test_attributes_are_copied_along(self):
        for error, name in [(BadProgram("STEPS"), "part"), (BadText(12), "row")]:
            for twin in [copy.copy(error), pickle.loads(pickle.dumps(error))]:
                self.assertEqual(getattr(twin, name), getattr(error, name))


if __name__ == "__main__":
    unittest.main()
