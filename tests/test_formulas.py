"""Promise [4], the class Formula of the section fewlabels/formulas.py, and [1] as far as it concerns it."""

import itertools
import unittest

from fewlabels.errors import BadExpression
from fewlabels.formulas import Expression, Formula, Name, Number, Power
from fewlabels.units import Unit
from tests.helpers import PromiseCase

A, B, C, W = Name("a"), Name("b"), Name("c"), Name("w")
METRE, SECOND, PLAIN = Unit.base("m"), Unit.base("s"), Unit({})
NO_EXPRESSIONS = (
    None, True, 0, 1, "", "a", "a = b", b"a", (), (A, B), [A], {}, {1}, object(), Expression(), Unit({}), Name,
    Formula(A, B),
)


class TestExamples(unittest.TestCase):

    def test_first_example_of_the_document(self):
        formula = Formula(Name('way'), Name('speed') * Name('time') + Name('start'))
        self.assertEqual(formula.names, ['speed', 'start', 'time', 'way'])

    def test_second_example_of_the_document(self):
        formula = Formula(Name('way'), Name('speed') * Name('time') + Name('start'))
        metre = Unit.base('m')
        second = Unit.base('s')
        units = {'way': metre, 'start': metre, 'speed': metre // second, 'time': second}
        others = {'way': metre, 'start': second, 'speed': metre // second, 'time': second}
        self.assertEqual([formula.fits(units), formula.fits(others)], [True, False])

    def test_methods_stand_in_the_class_itself(self):
        for word in ("__init__", "__eq__", "left", "right", "names", "fits"):
            self.assertIn(word, vars(Formula))
        self.assertEqual(Formula.__module__, "fewlabels.formulas")


class TestFormula(PromiseCase):

    def test_sides(self):
        formula = Formula(W * A, B + Number(3))
        self.assertTrue(formula.left == W * A)
        self.assertTrue(formula.right == B + Number(3))

    def test_a_name_in_one_side(self):
        self.assertEqual(Formula(A, Number(1)).names, ["a"])
        self.assertEqual(Formula(Number(1), A).names, ["a"])
        self.assertEqual(Formula(Number(1) * A ** 0, Number(1)).names, ["a"])

    def test_no_name(self):
        for left in (Number(1), Number(0) + Number(1), Number(2) ** 2):
            for right in (Number(1), Number(4) // Number(2)):
                self.refuses(BadExpression, Formula, left, right)

    def test_names(self):
        formula = Formula(Name("z") + Name("b"), Name("b") * Name("ab") * Name("a"))
        self.assertEqual(formula.names, ["a", "ab", "b", "z"])
        self.assertEqual(Formula(A, A).names, ["a"])
        self.assertEqual(Formula(C, B).names, ["b", "c"])

    def test_two_sides_of_20_nodes(self):
        side = A
        for _ in range(19):
            side = Power(side, 1)
        formula = Formula(side, side)
        self.assertEqual([formula.left.size, formula.right.size], [20, 20])

    def test_not_two_expressions(self):
        for thing in NO_EXPRESSIONS:
            with self.subTest(thing=thing):
                self.refuses(BadExpression, Formula, thing, A)
                self.refuses(BadExpression, Formula, A, thing)
                self.refuses(BadExpression, Formula, thing, thing)

    def test_equality(self):
        self.assertIs(Formula(A, B + C) == Formula(Name("a"), Name("b") + Name("c")), True)
        self.assertIs(Formula(A, B + C) != Formula(Name("a"), Name("b") + Name("c")), False)
        for other in (Formula(B + C, A), Formula(A, C + B), Formula(A, B - C), Formula(W, B + C), Formula(A, B)):
            self.assertIs(Formula(A, B + C) == other, False)
            self.assertIs(Formula(A, B + C) != other, True)

    def test_equality_with_what_is_no_formula(self):
        for thing in (None, 1, "a", (A, B), A, A + B):
            self.assertIs(Formula(A, B) == thing, False)
            self.assertIs(Formula(A, B) != thing, True)

    def test_names_is_a_new_list(self):
        formula = Formula(A, B)
        found = formula.names
        self.assertIsNot(found, formula.names)
        found.append("x")
        self.assertEqual(formula.names, ["a", "b"])

    def test_properties_cannot_be_assigned(self):
        for word in ("left", "right", "names"):
            with self.assertRaises(AttributeError):
                setattr(Formula(A, B), word, C)


class TestUnitsOfExpressions(unittest.TestCase):
    """Which unit an expression has: the one with which the other side of a formula fits."""

    units = {"a": METRE, "b": METRE, "c": SECOND}

    def check(self, expression, unit):
        for other in (PLAIN, METRE, SECOND, METRE * SECOND, METRE // SECOND, METRE ** 2, METRE ** -1, unit):
            units = dict(self.units, w=other)
            self.assertIs(Formula(W, expression).fits(units), other == unit)
            self.assertIs(Formula(expression, W).fits(units), other == unit)

    def test_names_and_numbers(self):
        self.check(A, METRE)
        self.check(C, SECOND)
        for number in (-99, -1, 0, 1, 99):
            self.check(Number(number), PLAIN)

    def test_sums_and_differences(self):
        self.check(A + B, METRE)
        self.check(A - B, METRE)
        self.check(B - A - A + B, METRE)
        self.check(Number(1) + Number(0), PLAIN)
        self.check(A // B - Number(5), PLAIN)

    def test_products_and_quotients(self):
        self.check(A * C, METRE * SECOND)
        self.check(A // C, METRE // SECOND)
        self.check(C // A, SECOND // METRE)
        self.check(A * B, METRE ** 2)
        self.check(A // B, PLAIN)
        self.check(Number(0) * A, METRE)
        self.check(Number(7) // A, METRE ** -1)

    def test_powers(self):
        for number in range(-3, 4):
            self.check(A ** number, METRE ** number)
            self.check((A // C) ** number, Unit({"m": number, "s": -number}))
            self.check((A + B) ** number, METRE ** number)
            self.check(Number(2) ** number, PLAIN)
        self.check((A ** 3) ** -3, METRE ** -9)

    def test_all_together(self):
        self.check((A * C + B * C) ** 2 // (A * B - A ** 2) - C ** 2, SECOND ** 2)


class TestFits(unittest.TestCase):

    def test_at_the_formula_itself(self):
        self.assertIs(Formula(A, B).fits({"a": METRE, "b": METRE}), True)
        self.assertIs(Formula(A, B).fits({"a": METRE, "b": SECOND}), False)
        self.assertIs(Formula(A, Number(3)).fits({"a": PLAIN}), True)
        self.assertIs(Formula(Number(3), A).fits({"a": METRE}), False)
        self.assertIs(Formula(A, A).fits({"a": METRE}), True)

    def test_at_a_sum_or_a_difference_wherever_it_stands(self):
        # Each of these keeps the unit, so that every fault is that of the sum or difference inside.
        wraps = (lambda e: e + A, lambda e: A + e, lambda e: e - A, lambda e: A - e, lambda e: e * Number(2),
                 lambda e: Number(2) * e, lambda e: e // Number(2), lambda e: Number(2) // (Number(3) // e),
                 lambda e: e ** 1, lambda e: (e ** -1) ** -1)
        fitting = {"a": METRE, "b": METRE}
        failing = {"a": METRE, "b": SECOND}
        for inner in (A + B, A - B):
            for first, second, third in itertools.product(wraps, repeat=3):
                expression = first(second(third(inner)))
                for formula in (Formula(A, expression), Formula(expression, A)):
                    self.assertIs(formula.fits(fitting), True)
                    self.assertIs(formula.fits(failing), False)

    def test_where_the_unit_of_the_sum_does_not_matter(self):
        for inner in (A + B, A - B, B + A, B - A):
            for expression in (inner ** 0, inner // inner, (inner + inner) ** 0, inner * inner ** -1,
                               (Number(1) + inner // inner) ** 3):
                for formula in (Formula(W, expression), Formula(expression, W)):
                    self.assertIs(formula.fits({"a": METRE, "b": METRE, "w": PLAIN}), True)
                    self.assertIs(formula.fits({"a": METRE, "b": SECOND, "w": PLAIN}), False)
                    self.assertIs(formula.fits({"a": METRE, "b": METRE, "w": METRE}), False)

    def test_only_the_right_one_of_several_sums_is_wrong(self):
        formula = Formula((A + B) * W, (C - W) * A)
        self.assertIs(formula.fits({"a": METRE, "b": METRE, "c": SECOND, "w": SECOND}), True)
        self.assertIs(formula.fits({"a": METRE, "b": METRE, "c": METRE, "w": SECOND}), False)
        self.assertIs(formula.fits({"a": METRE, "b": SECOND, "c": SECOND, "w": SECOND}), False)

    def test_a_number_beside_a_quantity(self):
        for expression in (A + Number(0), Number(0) + A, A - Number(9), Number(9) - A):
            self.assertIs(Formula(W, expression).fits({"a": PLAIN, "w": PLAIN}), True)
            self.assertIs(Formula(W, expression).fits({"a": METRE, "w": METRE}), False)
            self.assertIs(Formula(W, expression).fits({"a": METRE, "w": PLAIN}), False)

    def test_the_units_are_neither_modified_nor_kept(self):
        formula = Formula(W, A * B + C)
        units = {"w": METRE ** 2, "a": METRE, "c": METRE ** 2, "b": METRE}
        self.assertIs(formula.fits(units), True)
        self.assertEqual([(name, unit.powers) for name, unit in units.items()],
                         [("w", {"m": 2}), ("a", {"m": 1}), ("c", {"m": 2}), ("b", {"m": 1})])
        units["c"] = METRE
        self.assertIs(formula.fits(units), False)
        units["c"] = METRE ** 2
        self.assertIs(formula.fits(units), True)

    def test_the_formula_stays_the_same(self):
        formula = Formula(W, A + B)
        formula.fits({"w": METRE, "a": METRE, "b": SECOND})
        self.assertTrue(formula == Formula(W, A + B))
        self.assertEqual(formula.names, ["a", "b", "w"])


if __name__ == "__main__":
    unittest.main()
