"""Promise [11] for units and expressions, with the section fewlabels/texts.py, and [1] as far as it concerns them."""

import unittest

from fewlabels import texts
from fewlabels.errors import BadExpression, BadUnit
from fewlabels.formulas import Difference, Expression, Formula, Name, Number, Power, Product, Quotient, Sum
from fewlabels.texts import expression_text, read_expression, read_unit, unit_text
from fewlabels.units import Unit
from tests.helpers import LETTERS, NO_NAME_STRINGS, NO_TEXTS, NO_UNITS, PromiseCase
from tests.oracles import Picks, picked_expression, picked_unit
from tests.text_oracles import edited, expression_by_words, is_expression_text, is_unit_text, unit_by_words

A, B, C = Name("a"), Name("b"), Name("c")
METRE, SECOND, KILO, PLAIN = Unit.base("m"), Unit.base("s"), Unit.base("kg"), Unit({})
NINES = 999999999
UNITS = (
    ("1", {}), ("1", {"m": 0}), ("m", {"m": 1}), ("m^2", {"m": 2}), ("m^-1", {"m": -1}), ("m^-2", {"m": -2}),
    ("kg m^2 s^-2", {"s": -2, "m": 2, "kg": 1}), ("m s", {"s": 1, "m": 1}),
    ("a aa ab b", {"b": 1, "ab": 1, "aa": 1, "a": 1}), ("abcdefgh^10", {"abcdefgh": 10}),
    ("m^10 s^-10", {"m": 10, "s": -10}),
    ("b^999999999", {"b": NINES}), ("b^-999999999", {"b": -NINES}), ("b^100000000 c", {"b": 10 ** 8, "c": 1}),
    ("a z", {"z": 1, "m": 0, "a": 1}),
)
NO_UNIT_TEXTS = (
    "", " ", "m ", " m", "m  s", "m s ", " m s", "m\ts", "m\ns", "m\n", "m\r", "\nm", "m^1", "m^0", "m^-0", "m^+2",
    "m^02", "m^-02", "m^00", "m^", "m^-", "m^--2", "m^2^3", "m^2^", "^2", "^", "m ^2", "m^ 2", "m^2 ", "m^ -2", "m^- 2",
    "m^2.0", "m^2e1", "m^1_0", "m^0x2", "m^\u00b2", "m^\u0662", "m^a", "m^1000000000", "m^-1000000000",
    "m^0000000002", "m^" + "9" * 5000, "s m", "s^-2 m^2", "m m", "m m^2", "m^2 m", "m^2 m^2", "m^2 m^-2", "a m m z",
    "b a c", "aa a", "m*s", "m * s", "m/s", "m//s", "m,s", "m2", "m-2", "m**2", "1 m", "m 1", "1 1", "1^2", "2", "0",
    "-1", "+1", "01", "1 ", " 1", "1\n", "(m)", "\"m\"", "M", "m S", "m^2 S",
)
EXPRESSIONS = (
    ("way", Name("way")), ("abcdefgh", Name("abcdefgh")), ("-5", Number(-5)), ("0", Number(0)), ("7", Number(7)),
    ("99", Number(99)), ("-99", Number(-99)), ("10", Number(10)), ("(a + b)", A + B), ("(a - b)", A - B),
    ("(a * b)", A * B), ("(a // b)", A // B), ("(a ** -2)", A ** -2), ("(a ** 0)", A ** 0), ("(a ** 3)", A ** 3),
    ("(a ** -3)", A ** -3), ("(a ** 1)", A ** 1), ("(a - -1)", A - Number(-1)), ("(-1 - a)", Number(-1) - A),
    ("(-1 ** 2)", Number(-1) ** 2), ("(2 ** -1)", Number(2) ** -1), ("(1 + 2)", Number(1) + Number(2)),
    ("((a + b) + c)", A + B + C), ("(a + (b + c))", A + (B + C)), ("((a * b) + c)", A * B + C),
    ("(a + (b * c))", A + B * C), ("((a // b) // c)", A // B // C),
    ("(((a + -2) ** 2) // b)", (A + Number(-2)) ** 2 // B), ("((a - b) * (c ** 2))", (A - B) * C ** 2),
    ("((a ** 2) ** -3)", (A ** 2) ** -3), ("(a + a)", A + A),
)
NO_EXPRESSION_TEXTS = (
    "", " ", "a ", " a", "a\n", "\na", "a\r", "a\t", "a b", "a  b", "()", "( )", "(a)", "((a))", "((a + b))", "(-5)",
    "a + b", "a ** 2", "(a + b", "a + b)", "(a + b))", "((a + b)", ")a + b(", "(a + b) ", " (a + b)", "( a + b)",
    "(a + b )", "(a  + b)", "(a +  b)", "(a+b)", "(a +b)", "(a+ b)", "(a\t+ b)", "(a +\nb)", "(a + b)\n", "(a + b) c",
    "(a + b) + c", "(a + b)(a + b)", "(a + b) (a + b)", "(a + b)c", "c(a + b)", "(a + b + c)", "(a +)", "(a + )",
    "(+ b)", "( + b)", "(+ a b)", "(a b +)", "(a b)", "(a b c)", "(a + +)", "(+ + +)", "((( ( (", "(", ")", "+", "-",
    "(( + b)", "((+ b)", "(a + ()", "(a + ))",
    "(a ** ()", "(a ** ))", "(a ** +)", "(() + b)", "(( ** 2)", "a b + c)", "+ b + c)", "a b ** 2)", "b + c)",
    "(a b + c)", "((a b + c) + d)", "(a / b)", "(a % b)", "(a ^ 2)", "(a = b)", "(a & b)", "(a and b)",
    "(a *** b)", "(a + - b)", "(a - - b)", "(- a)", "-a", "+a", "(a + -b)", "(a + +1)", "+1", "+0", "-0", "--1", "- 1",
    "00", "01", "-01", "007", "1.0", "1e1", "1_0", "0x1", "\u0661", "\u00b2", "1a", "a1", "100", "-100", "999999999",
    "1000000000", "9" * 5000, "(a + 100)", "(a + -0)", "(a + 01)", "(a ** 4)", "(a ** -4)", "(a ** +2)", "(a ** -0)",
    "(a ** 02)", "(a ** 99)", "(a ** b)", "(a ** (1 + 1))", "(a ** (2))", "(a ** )", "(a ** -)", "(a **2)", "(a** 2)",
    "(a * * 2)", "(a ** 2 ** 3)", "(a ** -1000000000)", "a,b", "a.b", "a_b", "A", "(a + B)", "Name('a')", "None",
    "True", "[a + b]", "{a + b}", "(a + b]", "'a'", "a;", "abcdefghi", "(abcdefghi + a)",
)


class TestExample(unittest.TestCase):

    def test_example_of_the_document(self):
        text = expression_text((Name('a') + Number(-2)) ** 2 // Name('b'))
        found = [text, read_expression(text) == (Name('a') + Number(-2)) ** 2 // Name('b'),
                 unit_text(Unit({'s': -2, 'm': 1}))]
        self.assertEqual(found, ['(((a + -2) ** 2) // b)', True, 'm s^-2'])

    def test_examples_of_the_promise(self):
        self.assertEqual(unit_text(KILO * METRE ** 2 // SECOND ** 2), "kg m^2 s^-2")
        self.assertEqual(unit_text(PLAIN), "1")
        found = [expression_text(expression) for expression in (
            Name("way"), Number(-5), A + B, A - B, A * B, A // B, A ** -2)]
        self.assertEqual(found, ["way", "-5", "(a + b)", "(a - b)", "(a * b)", "(a // b)", "(a ** -2)"])

    def test_all_stands_in_this_file(self):
        for word in ("unit_text", "expression_text", "system_text", "read_unit", "read_expression", "read_system"):
            self.assertEqual(getattr(texts, word).__module__, "fewlabels.texts")


class TestUnits(PromiseCase):

    def test_written_and_read(self):
        for text, powers in UNITS:
            with self.subTest(text=text):
                self.assertEqual(unit_text(Unit(powers)), text)
                found = read_unit(text)
                self.assertIs(found.__class__, Unit)
                self.assertTrue(found == Unit(powers))

    def test_each_exponent(self):
        for power in list(range(-120, 121)) + [NINES, -NINES, NINES - 1, 10 ** 8, -10 ** 8]:
            for unit in (Unit({"m": power}), Unit({"m": power, "s": 2}), Unit({"s": power, "m": 1})):
                self.assertEqual(unit_text(unit), unit_by_words(unit))
                self.assertTrue(read_unit(unit_text(unit)) == unit)

    def test_many_base_units(self):
        unit = Unit({letter: at for at, letter in enumerate(LETTERS, -12)})
        self.assertTrue(read_unit(unit_text(unit)) == unit)
        self.assertEqual(unit_text(unit), unit_by_words(unit))

    def test_ten_digits(self):
        for power in (10 ** 9, -10 ** 9, 10 ** 10, 10 ** 30, -10 ** 30, 7 ** 9000, -7 ** 9000):
            for powers in ({"m": power}, {"a": 1, "m": power}, {"m": power, "z": 1}, {"a": power, "m": power}):
                self.refuses(BadUnit, unit_text, Unit(powers))

    def test_not_a_unit(self):
        for thing in NO_UNITS:
            with self.subTest(thing=thing):
                self.refuses(BadUnit, unit_text, thing)

    def test_texts_that_differ_from_the_written_form(self):
        for text in NO_UNIT_TEXTS:
            with self.subTest(text=text[:30]):
                self.refuses_text(0, read_unit, text)

    def test_no_names(self):
        for name in NO_NAME_STRINGS:
            if name in ("1", "a b", "a^2"):
                continue
            with self.subTest(name=name[:30]):
                self.refuses_text(0, read_unit, name)
                self.refuses_text(0, read_unit, f"{name}^2")
                self.refuses_text(0, read_unit, f"a {name}")

    def test_not_a_string(self):
        for thing in NO_TEXTS:
            with self.subTest(thing=thing):
                self.refuses_text(0, read_unit, thing)

    def test_small_changes(self):
        picks = Picks(31)
        seen = {True: 0, False: 0}
        for _ in range(3000):
            text = edited(picks, unit_text(picked_unit(picks, ("a", "b", "bc"), 11)), "ab ^-01")
            seen[is_unit_text(text)] += 1
            if is_unit_text(text):
                self.assertEqual(unit_text(read_unit(text)), text)
            else:
                self.refuses_text(0, read_unit, text)
        self.assertGreater(min(seen.values()), 300)


class TestExpressions(PromiseCase):

    def test_written_and_read(self):
        for text, expression in EXPRESSIONS:
            with self.subTest(text=text):
                self.assertEqual(expression_text(expression), text)
                found = read_expression(text)
                self.assertIs(found.__class__, expression.__class__)
                self.assertTrue(found == expression)

    def test_all_seven_classes(self):
        found = {expression.__class__ for _, expression in EXPRESSIONS}
        self.assertEqual(found, {Name, Number, Sum, Difference, Product, Quotient, Power})

    def test_each_number_and_each_exponent(self):
        for number in range(-99, 100):
            self.assertEqual(expression_text(Number(number)), f"{number}")
            self.assertTrue(read_expression(f"{number}") == Number(number))
            self.assertTrue(read_expression(f"(a - {number})") == A - Number(number))
            self.assertTrue(read_expression(f"({number} - a)") == Number(number) - A)
        for number in range(-3, 4):
            self.assertTrue(read_expression(f"(a ** {number})") == A ** number)
            found = read_expression(f"(({number} ** {number}) ** {number})")
            self.assertTrue(found == Power(Power(Number(number), number), number))

    def test_not_an_expression(self):
        for thing in (None, True, False, 0, 1, "", "a", "(a + b)", b"a", (), (A, B), [], [A], {}, {1}, object(),
                      Formula(A, B), METRE, Name, Expression, Expression()):
            with self.subTest(thing=thing):
                self.refuses(BadExpression, expression_text, thing)

    def test_texts_that_differ_from_the_written_form(self):
        for text in NO_EXPRESSION_TEXTS:
            with self.subTest(text=text[:30]):
                self.refuses_text(0, read_expression, text)
                self.refuses_text(0, read_expression, f"({text} + c)")
                self.refuses_text(0, read_expression, f"(c * {text})")
                self.refuses_text(0, read_expression, f"({text} ** 2)")

    def test_each_sign(self):
        for sign in ("+", "-", "*", "//", "**"):
            for text in (f"(a{sign}2)", f"(a {sign}2)", f"(a{sign} 2)", f"(a  {sign} 2)", f"(a {sign}  2)",
                         f"( a {sign} 2)", f"(a {sign} 2 )", f"a {sign} 2", f"(a {sign} 2", f"a {sign} 2)",
                         f"((a {sign} 2))", f"((a) {sign} 2)", f"(a {sign} (2))", f"(a {sign} 2) ", f" (a {sign} 2)",
                         f"(a {sign} 2)\n", f"(a {sign} 2)\r", f"(a {sign} +2)", f"(a {sign} 02)", f"(a {sign} 1000)",
                         f"(a {sign} 2 {sign} 2)", f"(a {sign} {sign} 2)", f"({sign} a 2)", f"(a 2 {sign})", sign,
                         f"({sign})", f"(a {sign})", f"({sign} 2)", f"(a {sign} )"):
                with self.subTest(text=text):
                    self.refuses_text(0, read_expression, text)
            self.assertEqual(expression_text(read_expression(f"(a {sign} 2)")), f"(a {sign} 2)")

    def test_no_names(self):
        for name in NO_NAME_STRINGS:
            if name == "1":
                continue
            with self.subTest(name=name[:30]):
                self.refuses_text(0, read_expression, name)
                self.refuses_text(0, read_expression, f"(a + {name})")
                self.refuses_text(0, read_expression, f"({name} ** 2)")

    def test_20_nodes(self):
        whole, chain = A, A
        for _ in range(9):
            whole, chain = B + whole, chain + B
        for expression in (whole ** 2, chain ** -2):
            self.assertEqual(expression.size, 20)
            self.assertTrue(read_expression(expression_text(expression)) == expression)
        powers = "(" * 19 + "a" + " ** 3)" * 19
        self.assertEqual(expression_text(read_expression(powers)), powers)

    def test_more_than_20_nodes(self):
        powers = "(" * 20 + "a" + " ** 3)" * 20
        self.refuses_text(0, read_expression, powers)
        self.refuses_text(0, read_expression, f"(b * {powers})")
        self.refuses_text(0, read_expression, "(b + " * 10 + "a" + ")" * 10)
        self.refuses_text(0, read_expression, "(" * 10 + "a" + " - b)" * 10)
        nineteen = "(b + " * 9 + "a" + ")" * 9
        self.assertEqual(read_expression(nineteen).size, 19)
        self.refuses_text(0, read_expression, f"({nineteen} // a)")

    def test_very_long_texts(self):
        many = 100000
        for text in ("(" * many, ")" * many, "(" * many + "a" + ")" * many, "(" * many + "a" + " ** 3)" * many,
                     "(b + " * many + "a" + ")" * many, "a" * many, "1" * many, "-" * many, " " * many, "a " * many,
                     "()" * many):
            self.refuses_text(0, read_expression, text)
            self.refuses_text(0, read_unit, text)

    def test_not_a_string(self):
        for thing in NO_TEXTS + (A + B,):
            with self.subTest(thing=thing):
                self.refuses_text(0, read_expression, thing)

    def test_against_the_words_of_the_document(self):
        picks = Picks(32)
        for _ in range(1000):
            expression = self.some_expression(picks)
            text = expression_text(expression)
            self.assertEqual(text, expression_by_words(expression))
            self.assertTrue(is_expression_text(text))
            found = read_expression(text)
            self.assertTrue(found == expression)
            self.assertEqual([found.size, found.names], [expression.size, expression.names])

    def some_expression(self, picks):
        """Some expression of at most 20 nodes."""
        while True:
            try:
                return picked_expression(picks, ("a", "bc", "way"), 4)
            except BadExpression:
                pass

    def test_small_changes(self):
        picks = Picks(33)
        seen = {True: 0, False: 0}
        for _ in range(4000):
            text = edited(picks, expression_text(self.some_expression(picks)), ("(", ")", " ", "a", "1", "-", "*", "0"))
            seen[is_expression_text(text)] += 1
            if is_expression_text(text):
                self.assertEqual(expression_text(read_expression(text)), text)
            else:
                self.refuses_text(0, read_expression, text)
        self.assertGreater(min(seen.values()), 300)


if __name__ == "__main__":
    unittest.main()
