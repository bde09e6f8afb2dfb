"""What several test files share."""

import unittest

from fewlabels.errors import LabelError

LETTERS = "abcdefghijklmnopqrstuvwxyz"

NO_NAME_STRINGS = (
    "", "abcdefghi", "a" * 1000, "A", "aB", "Ab", "1", "a1", "1a", "_", "a_b", "_a", "a b", " a", "a ", " ", "a\n",
    "a-b", "a.b", "a^2", "\u00e9", "a\u00e9", "\u00df", "\u00aa", "\u0131", "\uff41", "\u0430", "\ud800", "\u00b2",
)
NO_NAME_KEYS = NO_NAME_STRINGS + (None, True, False, 0, 1, -1, b"a", ("a",), (), object(), str)
NO_NAMES = NO_NAME_KEYS + (["a"], [], {}, {"a": 1}, {"a"})
NO_INTEGERS = (True, False, None, "1", "", b"1", (1,), [1], [], {1: 1}, {1}, object(), int)


class PromiseCase(unittest.TestCase):
    """A test case that can tell the errors of the package apart."""

    def refuses(self, error, call, *arguments):
        """Check that the call raises an error of this very class, and of no other one of the package."""
        with self.assertRaises(LabelError) as caught:
            call(*arguments)
        self.assertIs(caught.exception.__class__, error)
