"""The section fewlabels/errors.py of the interface."""

import unittest

from fewlabels import errors
from fewlabels.errors import BadSystem, BadText, LabelError

DIRECT = (
    "BadUnit", "BadExpression", "BadSystem", "BadName", "BadSet", "BadAssignment", "BadChain", "BadAmount",
    "UnlikeUnits", "NoQuotient", "TooLarge", "HasLabel", "NotPossible", "NothingWritten", "BadText",
)


class TestErrors(unittest.TestCase):

    def test_label_error_is_a_value_error(self):
        self.assertEqual(LabelError.__bases__, (ValueError,))

    def test_all_fifteen_are_direct_subclasses(self):
        for word in DIRECT:
            with self.subTest(word=word):
                self.assertEqual(getattr(errors, word).__bases__, (LabelError,))
                self.assertEqual(getattr(errors, word).__module__, "fewlabels.errors")

    def test_there_are_no_others(self):
        self.assertEqual(sorted(found.__name__ for found in LabelError.__subclasses__()), sorted(DIRECT))

    def test_each_can_be_raised_and_is_caught_as_its_bases(self):
        for word in DIRECT:
            for base in (LabelError, ValueError, getattr(errors, word)):
                with self.subTest(word=word, base=base), self.assertRaises(base):
                    raise getattr(errors, word)("a message")

    def test_message(self):
        for word in DIRECT:
            with self.subTest(word=word):
                self.assertEqual(str(getattr(errors, word)("a message")), "a message")

    def test_part_of_bad_system(self):
        self.assertEqual(BadSystem("a message", "BASES").part, "BASES")
        self.assertEqual(BadSystem(part="way").part, "way")
        self.assertIsNone(BadSystem("a message").part)
        self.assertIsNone(BadSystem().part)

    def test_row_of_bad_text(self):
        self.assertEqual(BadText("a message", 7).row, 7)
        self.assertEqual(BadText(row=1).row, 1)
        self.assertEqual(BadText().row, 0)


if __name__ == "__main__":
    unittest.main()
