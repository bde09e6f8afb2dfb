"""Promise [9] as far as it speaks of values, value of the section fewlabels/amounts.py, and [1] for it."""

import unittest

from fewlabels.amounts import Amount, value
from fewlabels.errors import BadAmount, BadExpression, LabelError, NoQuotient, TooLarge, UnlikeUnits
from fewlabels.formulas import Expression, Formula, Name, Number
from fewlabels.units import Unit
from tests.amount_oracles import value_by_words
from tests.helpers import NO_AMOUNTS, PromiseCase
from tests.oracles import Picks, picked_expression, picked_unit

A, B, C = Name("a"), Name("b"), Name("c")
METRE, SECOND, PLAIN = Unit.base("m"), Unit.base("s"), Unit({})
MOST = 10 ** 30
ABC = {"a": Amount(7, METRE), "b": Amount(-2, METRE), "c": Amount(3, SECOND)}
NO_EXPRESSIONS = (
    None, True, False, 0, 1, "", "a", "(a + b)", b"a", (), (A, B), [], [A], {}, {"a": 1}, {1}, object(), Formula(A, B),
    METRE, Amount.plain(1), Name, Expression,
)
# Each of these operations fails, whatever else there is.
UNLIKE, NO_QUOTIENT, TOO_LARGE = A + C, A // (B - B), Name("huge") * A
FAILING = ((UNLIKE, UnlikeUnits), (NO_QUOTIENT, NoQuotient), (TOO_LARGE, TooLarge))
WITH_HUGE = {**ABC, "huge": Amount(MOST, PLAIN)}


class TestExample(unittest.TestCase):

    def test_example_of_the_document(self):
        found = value(Name('a') * Name('a') - Number(3), {'a': Amount.plain(-4)}) == Amount.plain(13)
        self.assertIs(found, True)

    def test_it_stands_in_this_file(self):
        self.assertEqual(value.__module__, "fewlabels.amounts")


class TestValues(PromiseCase):

    def is_value(self, expression, number, unit, amounts=ABC):
        """Check the value of an expression."""
        found = value(expression, amounts)
        self.assertIs(found.__class__, Amount)
        self.assertEqual([found.number, found.unit.powers], [number, unit.powers])

    def test_names_and_numbers(self):
        self.is_value(A, 7, METRE)
        self.is_value(C, 3, SECOND)
        for number in (-99, -1, 0, 5, 99):
            self.is_value(Number(number), number, PLAIN)
            self.is_value(Number(number), number, PLAIN, {})

    def test_operations(self):
        self.is_value(A + B, 5, METRE)
        self.is_value(A - B, 9, METRE)
        self.is_value(B - A, -9, METRE)
        self.is_value(A * C, 21, METRE * SECOND)
        self.is_value(A // C, 2, METRE // SECOND)
        self.is_value(B // C, -1, METRE // SECOND)
        self.is_value(A // B, -4, PLAIN)
        self.is_value(C // B, -2, SECOND // METRE)

    def test_powers(self):
        for number in range(4):
            self.is_value(A ** number, 7 ** number, METRE ** number)
            self.is_value(B ** number, (-2) ** number, METRE ** number)
        for number, expected in ((-1, -1), (-2, 0), (-3, -1)):
            self.is_value(A ** number, 0, METRE ** number)
            self.is_value(B ** number, expected, METRE ** number)
        self.is_value((A - A) ** 0, 1, PLAIN)
        self.is_value(Number(-1) ** -3, -1, PLAIN)

    def test_numbers_are_plain(self):
        self.is_value(Number(2) * A, 14, METRE)
        self.is_value(A // Number(2), 3, METRE)
        self.is_value(Number(20) // A, 2, METRE ** -1)
        self.is_value(Number(3) + A // B, -1, PLAIN)
        self.refuses(UnlikeUnits, value, A + Number(1), ABC)
        self.refuses(UnlikeUnits, value, Number(0) - A, ABC)

    def test_nested(self):
        self.is_value((A + B) ** 2 * C - A * B * C, 117, METRE ** 2 * SECOND)
        self.is_value(((A - B) // C) ** -2 * Number(-5), 0, SECOND ** 2 // METRE ** 2)
        self.is_value((A // A + Number(9)) ** 3, 1000, PLAIN)

    def test_the_largest_expression(self):
        product = A
        for _ in range(9):
            product = B * product
        self.assertEqual(product.size, 19)
        self.is_value(product ** 1, 7 * (-2) ** 9, METRE ** 10)

    def test_further_amounts_are_no_error(self):
        for key in ("b", "z", "A", "", 1, None, True, ("a",)):
            for thing in (None, 5, METRE, Amount.plain(1)):
                self.is_value(A * A, 49, METRE ** 2, {key: thing, "a": Amount(7, METRE)})
        self.is_value(Number(4), 4, PLAIN, {"a": None})

    def test_a_name_that_is_computed_more_than_once(self):
        self.is_value(A + A - A, 7, METRE)

    def test_the_bounds(self):
        huge = {"a": Amount(MOST, METRE), "b": Amount(-MOST, METRE), "c": Amount.plain(10 ** 10)}
        self.is_value(A + B, 0, METRE, huge)
        self.is_value(C ** 3, MOST, PLAIN, huge)
        self.is_value((Number(0) - C) ** 3, -MOST, PLAIN, huge)
        self.is_value(A // Number(-1), -MOST, METRE, huge)
        for expression in (A - B, B - A, A + A, A * Number(2), B * A, A ** 2, A ** -2, C ** 3 + Number(1),
                           (C + Number(1)) ** 3, (C + Number(1)) ** -3, A * B // A // A):
            self.refuses(TooLarge, value, expression, huge)


class TestRefused(PromiseCase):

    def test_not_an_expression(self):
        for thing in NO_EXPRESSIONS + (Expression(),):
            with self.subTest(thing=thing):
                self.refuses(BadExpression, value, thing, ABC)
                self.refuses(BadExpression, value, thing, None)

    def test_not_a_dict(self):
        for thing in (None, True, 0, "a", b"a", (), ("a",), [], [("a", ABC["a"])], {"a"}, object(), METRE, ABC["a"]):
            for expression in (A, Number(1), A + C):
                with self.subTest(thing=thing):
                    self.refuses(BadAmount, value, expression, thing)

    def test_a_name_is_missing(self):
        for amounts in ({}, {"a": ABC["a"]}, {"b": ABC["b"]}, {"a": ABC["a"], "B": ABC["b"]},
                        {"a": ABC["a"], ("b",): ABC["b"]}, {"a": ABC["a"], None: ABC["b"]}):
            self.refuses(BadAmount, value, A * B, amounts)
            self.refuses(BadAmount, value, Number(2) - B ** 0 - A ** 0, amounts)

    def test_something_else_than_an_amount(self):
        for thing in NO_AMOUNTS:
            with self.subTest(thing=thing):
                self.refuses(BadAmount, value, A, {"a": thing})
                self.refuses(BadAmount, value, A * B, {**ABC, "b": thing})
                self.refuses(BadAmount, value, A * B, {**ABC, "a": thing})

    def test_a_missing_amount_comes_before_operations_that_fail(self):
        for expression, _ in FAILING:
            self.refuses(BadAmount, value, expression * Name("z"), WITH_HUGE)
            self.refuses(BadAmount, value, Name("z") ** 0 * expression, {**WITH_HUGE, "z": 1})

    def test_no_quotient(self):
        for expression in (A // Number(0), A // (A - A), (A - A) ** -1, Number(0) ** -3, Number(0) // Number(0),
                           A // (Number(1) // C)):
            self.refuses(NoQuotient, value, expression, ABC)

    def test_each_operation_that_fails(self):
        for expression, error in FAILING:
            for whole in (expression, B * expression, expression * B, expression ** 0, expression // B, B // expression,
                          (B - expression) * B, B + (expression - B)):
                self.refuses(error, value, whole, WITH_HUGE)

    def test_the_left_operand_comes_first(self):
        for left, error in FAILING:
            for right, _ in FAILING:
                for whole in (left + right, left - right, left * right, left // right, (B * left) ** 2 - right,
                              B * (left - B) + right):
                    self.refuses(error, value, whole, WITH_HUGE)

    def test_operands_come_before_their_operation(self):
        self.refuses(TooLarge, value, A + TOO_LARGE, WITH_HUGE)
        self.refuses(NoQuotient, value, A + (C - C) ** -1, WITH_HUGE)
        self.refuses(UnlikeUnits, value, UNLIKE // Number(0), WITH_HUGE)
        self.refuses(UnlikeUnits, value, Number(0) // UNLIKE, WITH_HUGE)
        self.refuses(TooLarge, value, TOO_LARGE ** 0, WITH_HUGE)
        self.refuses(TooLarge, value, (TOO_LARGE - TOO_LARGE) ** -1, WITH_HUGE)
        self.refuses(UnlikeUnits, value, (Name("huge") + A) * TOO_LARGE, WITH_HUGE)

    def test_unlike_units_come_before_integers_beyond(self):
        huge = {"a": Amount(MOST, METRE), "b": Amount(MOST, SECOND)}
        self.refuses(UnlikeUnits, value, A + B, huge)
        self.refuses(UnlikeUnits, value, A - Number(0) * B, huge)

    def test_nothing_is_modified_and_nothing_is_kept(self):
        amounts = dict(WITH_HUGE)
        found = value(A, amounts)
        for expression, error in FAILING:
            self.refuses(error, value, expression, amounts)
        self.assertEqual(list(amounts.items()), list(WITH_HUGE.items()))
        amounts["a"] = Amount.plain(0)
        amounts.clear()
        self.assertTrue(found == Amount(7, METRE))
        self.assertTrue(value(A, {"a": Amount.plain(1)}) == Amount.plain(1))

    def test_against_the_words_of_the_document(self):
        picks = Picks(12)
        seen = {None: 0, UnlikeUnits: 0, NoQuotient: 0, TooLarge: 0}
        numbers = (0, 0, 1, -1, 2, -3, 17, -10 ** 10, 10 ** 15, MOST, -MOST)
        for _ in range(3000):
            unit = picked_unit(picks, ("m",), 1)
            units = {name: picks.one_of((unit, unit, unit, PLAIN, METRE)) for name in "abc"}
            amounts = {name: Amount(picks.one_of(numbers), units[name]) for name in units}
            expression = picked_expression(picks, "abc", 3)
            pairs = {name: (amount.number, amount.unit.powers) for name, amount in amounts.items()}
            try:
                expected = value_by_words(expression, pairs)
            except LabelError as error:
                seen[error.__class__] += 1
                self.refuses(error.__class__, value, expression, amounts)
                continue
            seen[None] += 1
            found = value(expression, amounts)
            self.assertEqual((found.number, found.unit.powers), expected)
        self.assertGreater(min(seen.values()), 100)


if __name__ == "__main__":
    unittest.main()
