"""Promise [3], the expressions of the section fewlabels/formulas.py, and [1] as far as it concerns them."""

import unittest

from fewlabels.errors import BadExpression
from fewlabels.formulas import Difference, Expression, Formula, Name, Number, Power, Product, Quotient, Sum
from fewlabels.units import Unit
from tests.helpers import LETTERS, NO_INTEGERS, NO_NAMES, PromiseCase

PAIRS = (
    (Sum, lambda left, right: left + right),
    (Difference, lambda left, right: left - right),
    (Product, lambda left, right: left * right),
    (Quotient, lambda left, right: left // right),
)
SEVEN = (Name, Number, Sum, Difference, Product, Quotient, Power)
A, B, C = Name("a"), Name("b"), Name("c")
NO_EXPRESSIONS = (
    None, True, False, 0, 1, -1, "", "a", "a + b", b"a", (), ("a",), (A, B), [], [A], {}, {"a": 1}, {1}, object(),
    Expression(), Unit({}), Unit.base("a"), Formula(A, B), Name, Expression,
)


def powers_of_size(size):
    """An expression with this many nodes, all but one of them powers."""
    found = Name("a")
    for _ in range(size - 1):
        found = Power(found, 1)
    return found


def sums_of_size(size):
    """An expression with this many nodes, as many sums among them as possible."""
    found = Name("a") if size % 2 else Name("a") ** 1
    for _ in range((size - 1) // 2):
        found = Name("b") + found
    return found


class TestExample(unittest.TestCase):

    def test_example_of_the_document(self):
        path = Name('speed') * Name('time') + Name('start')
        formula = Formula(Name('way'), path)
        found = [path == Sum(Product(Name('speed'), Name('time')), Name('start')), path.size, formula.names]
        self.assertEqual(found, [True, 5, ['speed', 'start', 'time', 'way']])

    def test_classes(self):
        for found in SEVEN:
            with self.subTest(found=found):
                self.assertEqual(found.__bases__, (Expression,))
                self.assertEqual(found.__module__, "fewlabels.formulas")
                self.assertIn("__init__", vars(found))

    def test_methods_stand_in_the_class_itself(self):
        for word in ("__eq__", "__add__", "__sub__", "__mul__", "__floordiv__", "__pow__", "size", "names"):
            self.assertIn(word, vars(Expression))


class TestNames(PromiseCase):

    def test_names_of_1_to_8_letters(self):
        for many in range(1, 9):
            for name in (LETTERS[:many], LETTERS[-many:], "a" * many, "z" * many):
                self.assertEqual([Name(name).names, Name(name).size], [[name], 1])

    def test_not_a_name(self):
        for thing in NO_NAMES + (Name("a"), Unit.base("a")):
            with self.subTest(thing=thing):
                self.refuses(BadExpression, Name, thing)


class TestNumbers(PromiseCase):

    def test_numbers_from_minus_99_to_99(self):
        for number in range(-99, 100):
            self.assertEqual([Number(number).names, Number(number).size], [[], 1])

    def test_numbers_beyond(self):
        for number in (-100, 100, -101, 101, 10 ** 30, -10 ** 30):
            with self.subTest(number=number):
                self.refuses(BadExpression, Number, number)

    def test_not_an_integer(self):
        for thing in NO_INTEGERS + (Number(1), Name("a"), Unit({})):
            with self.subTest(thing=thing):
                self.refuses(BadExpression, Number, thing)


class TestPairs(PromiseCase):

    def test_operators_make_these_classes(self):
        for made, operator in PAIRS:
            for left, right in ((A, B), (A, A), (Number(2), A), (A + B, A - B), (A * B, A // B), (A ** 2, Number(0))):
                found = operator(left, right)
                self.assertIs(found.__class__, made)
                self.assertTrue(found == made(left, right))
                self.assertEqual(found.size, left.size + 1 + right.size)

    def test_operators_group_as_in_python(self):
        self.assertTrue(A + B * C ** 2 == Sum(A, Product(B, Power(C, 2))))
        self.assertTrue(A - B - C == Difference(Difference(A, B), C))
        self.assertTrue(A // B // C == Quotient(Quotient(A, B), C))

    def test_arguments_that_are_no_expressions(self):
        for made, operator in PAIRS:
            for thing in NO_EXPRESSIONS:
                with self.subTest(made=made, thing=thing):
                    self.refuses(BadExpression, made, thing, A)
                    self.refuses(BadExpression, made, A, thing)
                    self.refuses(BadExpression, made, thing, thing)
                    for left in (A, Number(1), A + B, A ** 2):
                        self.refuses(BadExpression, operator, left, thing)

    def test_an_expression_without_a_class_of_its_own_is_none(self):
        for made, operator in PAIRS:
            self.refuses(BadExpression, operator, Expression(), A)
        self.refuses(BadExpression, lambda: Expression() ** 2)


class TestPowers(PromiseCase):

    def test_exponents_from_minus_3_to_3(self):
        for number in range(-3, 4):
            for inner in (A, Number(5), A + B, A ** 3):
                self.assertIs((inner ** number).__class__, Power)
                self.assertTrue(inner ** number == Power(inner, number))
                self.assertEqual((inner ** number).size, inner.size + 1)

    def test_exponents_beyond(self):
        for number in (-4, 4, 5, -5, 10 ** 30, -10 ** 30):
            with self.subTest(number=number):
                self.refuses(BadExpression, Power, A, number)
                self.refuses(BadExpression, lambda: A ** number)

    def test_exponents_that_are_no_integers(self):
        for thing in NO_INTEGERS + (Number(2), A, Unit({})):
            with self.subTest(thing=thing):
                self.refuses(BadExpression, Power, A, thing)
                self.refuses(BadExpression, lambda: A ** thing)

    def test_arguments_that_are_no_expressions(self):
        for thing in NO_EXPRESSIONS:
            with self.subTest(thing=thing):
                self.refuses(BadExpression, Power, thing, 2)
                self.refuses(BadExpression, Power, thing, 4)


class TestSize(PromiseCase):

    def test_sizes(self):
        cases = ((A, 1), (Number(7), 1), (A + B, 3), (A ** 2, 2), (A ** 2 ** 1, 2), ((A ** 2) ** 3, 3),
                 (A * B + C, 5), ((A - B) // (A - B), 7), (Number(2) * A ** -3, 4))
        for expression, size in cases:
            self.assertEqual(expression.size, size)

    def test_20_nodes(self):
        for part in (powers_of_size, sums_of_size):
            for made, operator in PAIRS:
                for many in (1, 2, 9, 10, 17, 18):
                    left, right = part(many), part(19 - many)
                    self.assertEqual([made(left, right).size, operator(left, right).size], [20, 20])
            self.assertEqual([Power(part(19), 2).size, (part(19) ** 2).size], [20, 20])

    def test_21_nodes(self):
        for part in (powers_of_size, sums_of_size):
            for made, operator in PAIRS:
                for many in (1, 2, 9, 10, 18, 19):
                    with self.subTest(made=made, many=many):
                        left, right = part(many), part(20 - many)
                        self.refuses(BadExpression, made, left, right)
                        self.refuses(BadExpression, operator, left, right)
            self.refuses(BadExpression, Power, part(20), 2)
            self.refuses(BadExpression, lambda: part(20) ** 2)

    def test_many_nodes(self):
        for made, operator in PAIRS:
            self.refuses(BadExpression, made, powers_of_size(20), powers_of_size(20))

    def test_exponents_and_equal_operands_count_as_described(self):
        self.assertEqual(powers_of_size(20).size, 20)
        shared = A + B
        self.assertEqual((shared * shared).size, 7)

    def test_a_refused_call_changes_nothing(self):
        full = sums_of_size(20)
        for operator in (lambda: full + A, lambda: A - full, lambda: full * A, lambda: full // A, lambda: full ** 2):
            self.refuses(BadExpression, operator)
        self.assertEqual([full.size, full.names], [20, ["a", "b"]])
        self.assertTrue(full == sums_of_size(20))


class TestNamesOfExpressions(PromiseCase):

    def test_alphabetical_and_without_duplicates(self):
        expression = (Name("z") * Name("ab") + Name("b")) // (Name("a") ** 2 - Name("z") * Number(4))
        self.assertEqual(expression.names, ["a", "ab", "b", "z"])
        self.assertEqual((A * A * A + A).names, ["a"])
        self.assertEqual((B - A).names, ["a", "b"])
        self.assertEqual((B ** 0).names, ["b"])

    def test_no_names(self):
        self.assertEqual((Number(1) + Number(2) ** 3).names, [])

    def test_wherever_a_name_stands(self):
        for made, operator in PAIRS:
            self.assertEqual(made(Number(1), B).names, ["b"])
            self.assertEqual(made(B, Number(1)).names, ["b"])
            self.assertEqual(operator(C, made(B, A) ** -1).names, ["a", "b", "c"])

    def test_names_is_a_new_list(self):
        for expression in (A, A + B, A ** 2, Number(1)):
            kept = list(expression.names)
            found = expression.names
            self.assertIs(found.__class__, list)
            self.assertIsNot(found, expression.names)
            found.append("x")
            self.assertEqual(expression.names, kept)


class TestEquality(PromiseCase):

    def test_equal(self):
        makers = (lambda: Name("a"), lambda: Number(-5), lambda: Name("a") + Name("b"), lambda: Name("a") - Name("b"),
                  lambda: Name("a") * Name("b"), lambda: Name("a") // Name("b"), lambda: Name("a") ** -2,
                  lambda: ((Name("a") + Number(3)) ** 2 - Name("b") * Name("c")) // Number(4))
        for at, maker in enumerate(makers):
            for other, another in enumerate(makers):
                self.assertIs(maker() == another(), at == other)
                self.assertIs(maker() != another(), at != other)

    def test_the_class_counts(self):
        for made, _ in PAIRS:
            for other, _ in PAIRS:
                self.assertIs(made(A, B) == other(A, B), made is other)
        self.assertIs(Name("a") == Number(1), False)
        self.assertIs(A ** 1 == A, False)

    def test_the_parts_count(self):
        for made, _ in PAIRS:
            self.assertIs(made(A, B) == made(B, A), False)
            self.assertIs(made(A, B) == made(A, C), False)
            self.assertIs(made(A, B) == made(C, B), False)
            self.assertIs(made(made(A, B), C) == made(A, made(B, C)), False)
            self.assertIs(made(A + B, C) == made(A - B, C), False)
        self.assertIs(A ** 2 == A ** 3, False)
        self.assertIs(A ** 2 == B ** 2, False)
        self.assertIs(Name("a") == Name("aa"), False)
        self.assertIs(Number(1) == Number(-1), False)

    def test_what_is_no_expression(self):
        for expression, thing in ((A, "a"), (A, ("a",)), (Number(1), 1), (Number(1), True), (A + B, None),
                                  (A, Formula(A, B)), (A, Unit.base("a"))):
            self.assertIs(expression == thing, False)
            self.assertIs(expression != thing, True)


class TestNothingChanges(PromiseCase):

    def test_operators_leave_their_operands(self):
        left, right = A + B, C ** 2
        for found in (left + right, left - right, left * right, left // right, left ** 3):
            found.names.clear()
        self.assertTrue(left == Sum(A, B))
        self.assertTrue(right == Power(C, 2))
        kept = left
        left += right
        self.assertTrue(kept == Sum(A, B))
        self.assertTrue(left == Sum(Sum(A, B), Power(C, 2)))

    def test_properties_cannot_be_assigned(self):
        for word in ("size", "names"):
            with self.assertRaises(AttributeError):
                setattr(A + B, word, 3)


if __name__ == "__main__":
    unittest.main()
