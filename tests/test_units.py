"""Promise [2], the section fewlabels/units.py of the interface, and [1] as far as it concerns units."""

import unittest

from fewlabels.errors import BadUnit
from fewlabels.units import Unit
from tests.helpers import LETTERS, NO_INTEGERS, NO_NAME_KEYS, NO_NAMES, PromiseCase

NO_UNITS = (None, True, False, 0, 1, 2, "", "a", "metre", (), [], {}, {"a": 1}, {"a"}, b"a", object(), Unit)


class TestExample(unittest.TestCase):

    def test_example_of_the_document(self):
        speed = Unit.base('metre') // Unit.base('second')
        found = [speed ** 2 == Unit({'metre': 2, 'second': -2}), 'metre' in speed, speed['second'],
                 bool(speed // speed), (speed * speed).powers]
        self.assertEqual(found, [True, True, -1, False, {'metre': 2, 'second': -2}])
        self.assertIs(found[0], True)
        self.assertIs(found[1], True)

    def test_methods_stand_in_the_class_itself(self):
        for word in ("__init__", "__eq__", "__mul__", "__floordiv__", "__pow__", "__contains__", "__getitem__",
                     "__bool__", "powers", "base"):
            with self.subTest(word=word):
                self.assertIn(word, vars(Unit))
        self.assertEqual(Unit.__module__, "fewlabels.units")


class TestNames(PromiseCase):

    def test_names_of_1_to_8_letters(self):
        for many in range(1, 9):
            for name in (LETTERS[:many], LETTERS[-many:], "a" * many, "z" * many):
                with self.subTest(name=name):
                    self.assertEqual(Unit({name: 2}).powers, {name: 2})
                    self.assertEqual(Unit.base(name).powers, {name: 1})

    def test_each_letter(self):
        for letter in LETTERS:
            self.assertEqual(Unit.base(letter).powers, {letter: 1})

    def test_not_a_name_as_a_key(self):
        for key in NO_NAME_KEYS:
            for power in (1, 0, -5):
                with self.subTest(key=key, power=power):
                    self.refuses(BadUnit, Unit, {key: power})
                    self.refuses(BadUnit, Unit, {"a": 1, key: power})
                    self.refuses(BadUnit, Unit, {key: power, "z": 1})

    def test_not_a_name_as_a_base(self):
        for thing in NO_NAMES:
            with self.subTest(thing=thing):
                self.refuses(BadUnit, Unit.base, thing)

    def test_base_returns_a_unit(self):
        self.assertIsInstance(Unit.base("a"), Unit)
        self.assertTrue(Unit.base("a") == Unit({"a": 1}))


class TestPowers(PromiseCase):

    def test_exponents_of_0_are_left_out(self):
        self.assertEqual(Unit({"a": 0, "b": 3, "c": 0}).powers, {"b": 3})
        self.assertEqual(Unit({"a": 0}).powers, {})
        self.assertTrue(Unit({"a": 0, "b": 3}) == Unit({"b": 3}))

    def test_exponents_of_any_size(self):
        for power in (1, -1, 9, -9, 10 ** 9, -10 ** 30, 7 ** 500):
            self.assertEqual(Unit({"a": power}).powers, {"a": power})
            self.assertEqual((Unit({"a": power}) * Unit({"a": power}))["a"], 2 * power)
            self.assertEqual((Unit({"a": power}) ** power)["a"], power * power)

    def test_many_base_units(self):
        names = [first + second for first in LETTERS for second in LETTERS]
        self.assertEqual(Unit(dict.fromkeys(names, 1)).powers, dict.fromkeys(names, 1))

    def test_the_plain_unit(self):
        self.assertEqual(Unit({}).powers, {})
        self.assertIs(bool(Unit({})), False)

    def test_alphabetical_order(self):
        self.assertEqual(list(Unit({"z": 1, "b": -1, "ab": 2, "a": 3}).powers.items()),
                         [("a", 3), ("ab", 2), ("b", -1), ("z", 1)])
        product = Unit({"n": 1, "d": 2}) * Unit({"z": 1, "f": 1, "a": 1})
        self.assertEqual(list(product.powers), ["a", "d", "f", "n", "z"])
        quotient = Unit({"n": 1, "d": 2}) // Unit({"z": 1, "f": 1, "a": 1})
        self.assertEqual(list(quotient.powers), ["a", "d", "f", "n", "z"])
        self.assertEqual(list((Unit({"z": 1, "f": 1, "a": 1}) ** -1).powers), ["a", "f", "z"])

    def test_not_a_dict(self):
        for thing in (None, True, 0, 1, "", "a", [], ["a"], [("a", 1)], (), (("a", 1),), {"a"}, b"", object(), dict):
            with self.subTest(thing=thing):
                self.refuses(BadUnit, Unit, thing)
        self.refuses(BadUnit, Unit, Unit({"a": 1}))

    def test_exponents_that_are_no_integers(self):
        for thing in NO_INTEGERS + (Unit({}),):
            with self.subTest(thing=thing):
                self.refuses(BadUnit, Unit, {"a": thing})
                self.refuses(BadUnit, Unit, {"a": 1, "b": thing})
                self.refuses(BadUnit, Unit, {"b": thing, "a": 0})

    def test_powers_is_a_dict_of_integers(self):
        self.assertIs(Unit({"a": 1}).powers.__class__, dict)


class TestOperators(PromiseCase):

    def test_product(self):
        self.assertEqual((Unit({"a": 2, "b": -1}) * Unit({"a": 3, "c": 4})).powers, {"a": 5, "b": -1, "c": 4})
        self.assertEqual((Unit({"a": 2, "b": -1}) * Unit({"a": -2, "b": 2})).powers, {"b": 1})
        self.assertEqual((Unit({"a": 2}) * Unit({})).powers, {"a": 2})
        self.assertEqual((Unit({}) * Unit({"a": 2})).powers, {"a": 2})
        self.assertEqual((Unit({}) * Unit({})).powers, {})

    def test_quotient(self):
        self.assertEqual((Unit({"a": 2, "b": -1}) // Unit({"a": 3, "c": 4})).powers, {"a": -1, "b": -1, "c": -4})
        self.assertEqual((Unit({"a": 2, "b": -1}) // Unit({"a": 2, "b": 2})).powers, {"b": -3})
        self.assertEqual((Unit({"a": 2}) // Unit({})).powers, {"a": 2})
        self.assertEqual((Unit({}) // Unit({"a": 2})).powers, {"a": -2})

    def test_power(self):
        unit = Unit({"a": 2, "b": -1})
        for number in range(-12, 13):
            self.assertEqual((unit ** number).powers, {"a": 2 * number, "b": -number} if number else {})
            self.assertEqual((Unit({}) ** number).powers, {})

    def test_power_is_repeated_product(self):
        unit, product = Unit({"a": 2, "b": -1}), Unit({})
        for number in range(9):
            self.assertTrue(unit ** number == product)
            self.assertTrue(unit ** -number == Unit({}) // product)
            product = product * unit

    def test_operators_return_units(self):
        unit = Unit({"a": 2})
        for found in (unit * unit, unit // unit, unit ** 2):
            self.assertIs(found.__class__, Unit)

    def test_the_other_one_is_not_a_unit(self):
        for unit in (Unit({}), Unit({"a": 1})):
            for thing in NO_UNITS:
                with self.subTest(thing=thing):
                    self.refuses(BadUnit, lambda: unit * thing)
                    self.refuses(BadUnit, lambda: unit // thing)

    def test_the_exponent_is_not_an_integer(self):
        for unit in (Unit({}), Unit({"a": 1})):
            for thing in NO_INTEGERS + (unit,):
                with self.subTest(thing=thing):
                    self.refuses(BadUnit, lambda: unit ** thing)

    def test_in(self):
        unit = Unit({"a": 2, "b": -1, "c": 0})
        self.assertEqual(["a" in unit, "b" in unit, "c" in unit, "d" in unit], [True, True, False, False])
        self.assertFalse("a" in unit // unit)
        self.assertTrue("c" not in unit)

    def test_item(self):
        unit = Unit({"a": 2, "b": -1, "c": 0})
        self.assertEqual([unit["a"], unit["b"], unit["c"], unit["d"], Unit({})["a"]], [2, -1, 0, 0, 0])
        self.assertEqual(unit.powers, {"a": 2, "b": -1})

    def test_truth(self):
        self.assertEqual([bool(Unit({})), bool(Unit({"a": 0})), bool(Unit({"a": 1})), bool(Unit({"a": -1}))],
                         [False, False, True, True])
        self.assertIs(bool(Unit({"a": 1}) * Unit({"a": -1})), False)

    def test_equality(self):
        self.assertTrue(Unit({"a": 1, "b": 2}) == Unit({"b": 2, "a": 1}))
        self.assertFalse(Unit({"a": 1, "b": 2}) != Unit({"b": 2, "a": 1}))
        for other in (Unit({}), Unit({"a": 1}), Unit({"a": 2, "b": 2}), Unit({"a": 1, "b": 2, "c": 1}),
                      Unit({"a": -1, "b": -2}), Unit({"a": 1, "c": 2})):
            self.assertFalse(Unit({"a": 1, "b": 2}) == other)
            self.assertTrue(Unit({"a": 1, "b": 2}) != other)

    def test_equality_with_what_is_no_unit(self):
        for thing in ({"a": 1}, "a", None, 1, ("a", 1)):
            self.assertIs(Unit({"a": 1}) == thing, False)
        self.assertIs(Unit({}) == {}, False)


class TestNothingChanges(PromiseCase):

    def test_the_argument_is_not_kept(self):
        powers = {"a": 1}
        unit = Unit(powers)
        powers["a"] = 5
        powers["b"] = 1
        self.assertEqual(unit.powers, {"a": 1})
        powers.clear()
        self.assertEqual([unit.powers, "b" in unit, unit["a"]], [{"a": 1}, False, 1])

    def test_the_argument_is_not_modified(self):
        powers = {"z": 0, "a": 1}
        Unit(powers)
        self.assertEqual(list(powers.items()), [("z", 0), ("a", 1)])
        wrong = {"z": 0, "a": 1, "A": 2}
        self.refuses(BadUnit, Unit, wrong)
        self.assertEqual(list(wrong.items()), [("z", 0), ("a", 1), ("A", 2)])

    def test_powers_is_a_new_dict(self):
        unit = Unit({"a": 1})
        found = unit.powers
        self.assertIsNot(found, unit.powers)
        found["b"] = 2
        found["a"] = 7
        self.assertEqual([unit.powers, unit["b"], unit == Unit({"a": 1})], [{"a": 1}, 0, True])

    def test_operators_leave_their_operands(self):
        one, other = Unit({"a": 1, "b": 2}), Unit({"b": -2, "c": 3})
        for found in (one * other, one // other, one * one, one // one, one ** 5, one ** 0):
            found.powers.clear()
        self.assertEqual([one.powers, other.powers], [{"a": 1, "b": 2}, {"b": -2, "c": 3}])
        kept = one
        one *= other
        self.assertEqual([kept.powers, one.powers], [{"a": 1, "b": 2}, {"a": 1, "c": 3}])

    def test_a_refused_call_changes_nothing(self):
        unit = Unit({"a": 1})
        self.refuses(BadUnit, lambda: unit * {"a": 1})
        self.refuses(BadUnit, lambda: unit // 2)
        self.refuses(BadUnit, lambda: unit ** True)
        self.assertEqual(unit.powers, {"a": 1})


if __name__ == "__main__":
    unittest.main()
