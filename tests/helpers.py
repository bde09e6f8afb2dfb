"""What several test files share."""

import unittest

from fewlabels.amounts import Amount
from fewlabels.errors import BadSystem, BadText, LabelError
from fewlabels.formulas import Formula, Name, Number
from fewlabels.systems import System
from fewlabels.units import Unit


class EqualToAll:
    """An object that claims to be equal to every other one."""

    def __eq__(self, other):
        return True


LETTERS = "abcdefghijklmnopqrstuvwxyz"

NO_NAME_STRINGS = (
    "", "abcdefghi", "a" * 1000, "A", "aB", "Ab", "1", "a1", "1a", "_", "a_b", "_a", "a b", " a", "a ", " ", "a\n",
    "a-b", "a.b", "a^2", "\u00e9", "a\u00e9", "\u00df", "\u00aa", "\u0131", "\uff41", "\u0430", "\ud800", "\u00b2",
)
NO_NAME_KEYS = NO_NAME_STRINGS + (None, True, False, 0, 1, -1, b"a", ("a",), (), object(), str)
NO_NAMES = NO_NAME_KEYS + (["a"], [], {}, {"a": 1}, {"a"}, EqualToAll())
NO_INTEGERS = (True, False, None, "1", "", b"1", (1,), [1], [], {1: 1}, {1}, object(), int)
NO_SYSTEMS = (
    None, True, 0, 1, "", "m", b"m", (), ("m",), [], {}, {1}, object(), System, Unit({}), Name("a"),
    Formula(Name("a"), Number(1)),
)
NO_SETS = (
    None, True, 0, 1, "", "way", b"way", [], ["way"], ["way", "start"], {}, {"way": 1}, {"way"}, object(), Unit({}),
    ("start", "way"), ("way", "start", "speed"), ("way", "way"), ("way", "speed", "way"), ("way", "speed", "speed"),
    ("m",), ("x",), ("way", "x"), ("x", "way"), ("ways",), ("Way",), ("",), ("way", ("start",)), (("way",),),
    (["way"],), (("way", "speed"),), (Unit.base("m"),), (Name("way"),), ("way", "speed", "time", "start", "way"),
    (EqualToAll(),) * 4,
)
NO_CHAINS = (
    None, True, 0, 1, "", "ab", b"ab", (), (1,), ((1, 2),), [1, ()], [1, (1, 1)], {1: (1, 1)}, {}, (1, (1, 1), 1),
    (1, 1), (1, 1, 1), (1, None), (1, [1, 1]), (1, []), (1, {}), (1, {1: 1}), (1, "11"), (1, b"11"), (1, ""), ((), 1),
    ((1, 1), 1), (1, (1, (1,))), (1, ((1, 1),)), (1, (1, [1])), object(), Unit.base("m"),
)
NO_UNITS = (
    None, True, False, 0, 1, "", "m", "1", b"m", (), ("m",), [], {}, {"m": 1}, {"m"}, object(), EqualToAll(), Unit,
    Name("m"), Amount.plain(1),
)
NO_AMOUNTS = (
    None, True, False, 0, 1, -1, "", "1", "1 m", b"1", (), (1, Unit({})), [], [1], {}, {1: 1}, {1}, object(),
    EqualToAll(), Amount, Unit({}), Unit.base("m"), Name("a"), Number(1),
)
NO_TEXTS = (
    None, True, False, 0, 1, -1, b"", b"m", b"1", (), ("m",), ("bases m\n",), [], ["m"], ["bases m\n"], {}, {"m": 1},
    {"m"}, object(), EqualToAll(), str, Unit({}), Unit.base("m"), Name("a"), Number(1),
)


class PromiseCase(unittest.TestCase):
    """A test case that can tell the errors of the package apart."""

    def refuses(self, error, call, *arguments):
        """Check that the call raises an error of this very class, and of no other one of the package; return it."""
        with self.assertRaises(LabelError) as caught:
            call(*arguments)
        self.assertIs(caught.exception.__class__, error)
        return caught.exception

    def refuses_system(self, part, call, *arguments):
        """Check that the call raises BadSystem with this part."""
        found = self.refuses(BadSystem, call, *arguments).part
        self.assertEqual(found, part)
        self.assertIs(found.__class__, part.__class__)

    def refuses_text(self, row, call, text):
        """Check that the call raises BadText with this row."""
        found = self.refuses(BadText, call, text).row
        self.assertEqual(found, row)
        self.assertIs(found.__class__, int)


def way_system(**labels):
    """The system of the document's examples, with these labels."""
    way = Formula(Name("way"), Name("speed") * Name("time") + Name("start"))
    costs = {"way": 2, "speed": 1, "time": 3, "start": 1}
    return System(("m", "s"), {name: (costs[name], labels.get(name)) for name in costs}, [way])


def plain_system(names, *formulas):
    """A system with one base unit, in which each of the quantities (one letter each) costs 1 and has no label."""
    return System(("m",), {name: (1, None) for name in names}, list(formulas))
