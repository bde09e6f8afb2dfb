"""Promise [11] for systems, with the section fewlabels/texts.py, and [1] as far as it concerns them."""

import unittest

from fewlabels.errors import BadSystem, BadText, BadUnit
from fewlabels.formulas import Formula, Name, Number
from fewlabels.notebooks import Notebook
from fewlabels.systems import System
from fewlabels.texts import read_system, system_text
from fewlabels.units import Unit
from tests.helpers import NO_NAME_STRINGS, NO_SYSTEMS, NO_TEXTS, PromiseCase, plain_system, way_system
from tests.oracles import Picks, picked_system
from tests.test_texts import NO_EXPRESSION_TEXTS, NO_UNIT_TEXTS
from tests.text_oracles import edited, row_at_fault, system_by_words

A, B, C = Name("a"), Name("b"), Name("c")
METRE, SECOND, KILO, PLAIN = Unit.base("m"), Unit.base("s"), Unit.base("kg"), Unit({})
WAY = """\
bases m s
quantity way 2
quantity speed 1 = m s^-1
quantity time 3
quantity start 1
formula way = ((speed * time) + start)
"""
LINES = WAY.splitlines(keepends=True)
TWENTY = "(" * 19 + "b" + " ** 1)" * 19
MORE = "(" * 20 + "b" + " ** 1)" * 20
NO_QUANTITY_LINES = (
    "", " ", "x", "quantity", "quantity ", "quantity a", "quantity a ", "quantity a 0", "quantity a 10",
    "quantity a -1", "quantity a -0", "quantity a +1", "quantity a 01", "quantity a 1.0", "quantity a 1 ",
    "quantity a  1", "quantity  a 1", " quantity a 1", "quantity a 1\r", "quantity a\t1", "quantity a b",
    "quantity a 1 2", "quantity a 1 m", "quantity a 1 =", "quantity a 1 = ", "quantity a 1  = m", "quantity a 1 =  m",
    "quantity a 1=m", "quantity a 1 =m", "quantity a 1= m", "quantity a 1 = m = m", "quantity a 1 = = m",
    "quantity a 1 == m", "quantity a 1 = None", "quantity a = m", "quantity 1 a", "quantity abcdefghi 1",
    "quantity A 1", "quantity a True", "quantity a \u0661", "quantity a 1_0", "quantity a 100000000000000000000",
    "Quantity a 1", "quantitya 1", "quantities a 1", "quantity = 1", "quantity a b 1", "quantity a (1)",
    "quantity a 1\x0c", "quantity a " + "9" * 5000,
)
NO_FORMULA_LINES = (
    "", " ", "x", "formula", "formula ", "formula way", "formula way =", "formula way = ", "formula = way",
    "formula  = way", "formula way  = way", "formula way =  way", "formula  way = way", " formula way = way",
    "formula way = way ", "formula way = way\r", "formula way=way", "formula way =way", "formula way= way",
    "formula way == way", "formula way = way = way", "formula (way = way)", "formula way\t= way", "Formula way = way",
    "formulaway = way", "formulas way = way", "formula 1 = 1", "formula (1 + 2) = (3 ** 2)", "formula way way",
    "formula way + start = way", "formula m^2 = way", "formula way = m^2", f"formula {MORE} = way",
    f"formula way = {MORE}", "formula way = (time ** 4)", "formula way = (time ** -4)", "formula way = 100",
    "formula way = -100", "formula way = abcdefghi", "formula way = way\x1c",
)


def with_line(row, line):
    """The text of the way with another line in this row."""
    return "".join(LINES[:row] + [line] + LINES[row + 1:])


def short(*lines):
    """A text with a line of bases and these lines."""
    return "".join(line + "\n" for line in ("bases m s",) + lines)


class TestWriting(PromiseCase):

    def test_example_of_the_promise(self):
        self.assertEqual(system_text(way_system(speed=METRE // SECOND)), WAY)

    def test_without_labels(self):
        self.assertEqual(system_text(way_system()), WAY.replace(" = m s^-1", ""))

    def test_labels(self):
        quantities = {"a": (9, PLAIN), "b": (1, KILO * METRE ** 2 // SECOND ** 2), "c": (5, None)}
        system = System(("s", "kg", "m"), quantities, [Formula(A, C // C), Formula(Number(-5) * B, C ** -1)])
        self.assertEqual(system_text(system), "bases s kg m\nquantity a 9 = 1\nquantity b 1 = kg m^2 s^-2\nquantity c 5"
                         "\nformula a = (c // c)\nformula (-5 * b) = (c ** -1)\n")
        self.assertTrue(read_system(system_text(system)) == system)

    def test_a_label_with_ten_digits(self):
        for power in (10 ** 9, -10 ** 9, 10 ** 30, 7 ** 9000):
            one, two = METRE ** power, METRE * SECOND ** power
            for labels in ({"way": one}, {"start": two}, {"time": METRE, "start": two}, {"way": one, "start": one}):
                self.refuses(BadUnit, system_text, way_system(**labels))
        for power in (999999999, -999999999):
            system = way_system(way=METRE ** power * SECOND)
            self.assertIn(f"quantity way 2 = m^{power} s\n", system_text(system))
            self.assertTrue(read_system(system_text(system)) == system)

    def test_not_a_system(self):
        for thing in NO_SYSTEMS + (WAY,):
            with self.subTest(thing=thing):
                self.refuses_system(None, system_text, thing)

    def test_the_system_of_a_notebook(self):
        notebook = Notebook(way_system())
        notebook.write("speed", METRE // SECOND)
        self.assertEqual(system_text(notebook.system), WAY)


class TestReading(PromiseCase):

    def is_read(self, text, system):
        """Check that a system is read from the text, and written as this text."""
        found = read_system(text)
        self.assertIs(found.__class__, System)
        self.assertTrue(found == system)
        self.assertEqual(system_text(found), text)

    def test_example_of_the_promise(self):
        self.is_read(WAY, way_system(speed=METRE // SECOND))
        self.is_read(WAY.replace(" = m s^-1", ""), way_system())

    def test_order_is_kept(self):
        text = "bases s m\nquantity b 2\nquantity a 1\nformula a = b\nformula b = a\n"
        found = read_system(text)
        self.assertEqual([found.bases, found.names], [("s", "m"), ["b", "a"]])
        self.assertEqual(found.formulas, [Formula(A, B), Formula(B, A)])
        self.assertEqual([found.cost("a"), found.cost("b"), found.label("a")], [1, 2, None])

    def test_the_smallest(self):
        self.is_read("bases m\nquantity a 1\nformula a = 1\n", plain_system("a", Formula(A, Number(1))))
        self.is_read("bases m\nquantity a 1\nformula 0 = a\n", plain_system("a", Formula(Number(0), A)))

    def test_the_largest(self):
        names = ("a", "b", "c", "d", "e", "ffffffff")
        text = "bases m s kilogram\n" + "".join(f"quantity {name} 9\n" for name in names)
        text += f"formula {TWENTY} = {TWENTY}\n" * 6
        found = read_system(text)
        self.assertEqual([found.names, len(found.formulas)], [list(names), 6])
        self.assertEqual(system_text(found), text)

    def test_words_of_the_lines_as_names(self):
        text = ("bases bases formula quantity\nquantity quantity 1 = bases\nquantity formula 2\nquantity bases 3\n"
                "formula formula = (quantity * bases)\nformula bases = quantity\n")
        found = read_system(text)
        self.assertEqual(found.bases, ("bases", "formula", "quantity"))
        self.assertEqual(found.names, ["quantity", "formula", "bases"])
        self.assertEqual(system_text(found), text)

    def test_labels(self):
        for label, unit in (("1", PLAIN), ("m", METRE), ("m^2 s^-2", METRE ** 2 // SECOND ** 2),
                            ("s^999999999", SECOND ** 999999999)):
            found = read_system(with_line(1, f"quantity way 2 = {label}\n").replace(" 1 = m s^-1", " 1"))
            self.assertTrue(found == way_system(way=unit))

    def test_each_cost(self):
        for cost in range(1, 10):
            self.assertEqual(read_system(with_line(3, f"quantity time {cost}\n")).cost("time"), cost)

    def test_what_is_read_can_be_used(self):
        found = read_system(WAY)
        self.assertEqual(found.balances(), way_system().balances())
        self.assertEqual(len(Notebook(found)), 1)

    def test_written_and_read_again(self):
        picks = Picks(41)
        for _ in range(200):
            system = picked_system(picks, 3)
            text = system_text(system)
            self.assertEqual(text, system_by_words(system))
            self.is_read(text, system)


class TestRows(PromiseCase):

    def refused(self, row, text):
        """Check that the text is refused with this row."""
        with self.subTest(text=text):
            self.refuses_text(row, read_system, text)

    def test_example_of_the_document(self):
        self.refused(1, 'bases m\nquantity way 2 = m^1\n')

    def test_not_a_string(self):
        for thing in NO_TEXTS + (way_system(), LINES, WAY.encode()):
            self.refused(0, thing)

    def test_lines_that_are_not_accepted(self):
        for line in ("", " ", "x", "bases", "bases ", "basesm", "base m", "Bases m", "bases  m", "bases m ",
                     " bases m", "bases m  s", "bases m\r", "bases\tm", "bases m,s", "bases M", "bases m 2", "bases 1",
                     "bases m^2", "bases abcdefghi", "bases m s abcdefghi", "bases = m", "\ufeffbases m", "bases m\x0b",
                     "bases m\u2028"):
            self.refused(0, with_line(0, line + "\n"))
        for name in NO_NAME_STRINGS:
            if name not in ("a b", "a\n"):
                self.refused(0, with_line(0, f"bases m {name}\n"))

    def test_a_name_with_a_line_feed_is_two_lines(self):
        self.refused(1, with_line(0, "bases m a\n\n"))

    def test_quantities_that_are_not_accepted(self):
        for line in NO_QUANTITY_LINES:
            for row in (1, 3, 4):
                self.refused(row, with_line(row, line + "\n"))
        for name in NO_NAME_STRINGS:
            if "\n" not in name:
                self.refused(2, with_line(2, f"quantity {name} 1\n"))

    def test_labels_that_are_not_accepted(self):
        for text in NO_UNIT_TEXTS:
            if "\n" not in text:
                self.refused(3, with_line(3, f"quantity time 3 = {text}\n"))

    def test_formulas_that_are_not_accepted(self):
        for line in NO_FORMULA_LINES:
            self.refused(5, with_line(5, line + "\n"))
            self.refused(6, WAY + line + "\n")
        for text in NO_EXPRESSION_TEXTS:
            if "\n" not in text:
                self.refused(5, with_line(5, f"formula way = {text}\n"))
                self.refused(5, with_line(5, f"formula {text} = way\n"))

    def test_the_first_line_at_fault(self):
        for rows in ((0, 1), (1, 2), (2, 5), (3, 4), (1, 5)):
            self.refused(rows[0], "".join("x\n" if row in rows else line for row, line in enumerate(LINES)))
        self.refused(2, "".join(LINES[:2]) + "x\n" + "".join(LINES[2:]) + "more")
        self.refused(2, "bases m m\nquantity a 1\nquantity a\nformula a = a\n")

    def test_lines_that_stand_in_the_wrong_order(self):
        bases, way, speed, time, start, formula = LINES
        self.refused(0, "".join([way, bases, speed, time, start, formula]))
        self.refused(0, "".join([formula] + LINES))
        self.refused(1, "".join([bases] + LINES))
        self.refused(2, "".join([bases, way, bases, speed, time, start, formula]))
        self.refused(6, WAY + bases)
        self.refused(6, WAY + start)
        self.refused(1, "".join([bases, formula, way, speed, time, start]))
        self.refused(3, "".join([bases, way, formula, speed, time, start]))
        self.refused(3, "".join([bases, way, formula, bases]))
        self.refused(7, WAY + formula + "quantity a 1\n" + formula)

    def test_lines_that_are_missing_ahead_of_others(self):
        self.refused(0, "".join(LINES[1:]))
        self.refused(0, LINES[5])
        self.refused(1, LINES[0] + LINES[5])
        self.refused(0, "\n" + WAY)
        self.refused(1, LINES[0] + "\n" + "".join(LINES[1:]))
        self.refused(6, WAY + "\n")
        self.refused(6, WAY + "\n\n")
        self.refused(0, "\n")

    def test_no_formula(self):
        self.refused(0, "")
        for many in range(1, 6):
            self.refused(many, "".join(LINES[:many]))
        self.refused(3, "bases m m\nquantity a 1\nquantity a 1\n")
        self.refused(9, "bases m s kg a\n" + "quantity a 9 = x\n" * 8)

    def test_characters_behind_the_last_line_feed(self):
        for rest in ("x", " ", "\r", "\x00", "formula way = way", "formula", "quantity a 1", "bases m"):
            for many in range(7):
                self.refused(many, "".join(LINES[:many]) + rest)
        for many in range(1, 7):
            self.refused(many - 1, "".join(LINES[:many])[:-1])
        self.refused(3, short("quantity a 1", "formula b = a")[:-1] + "\nformula a = a")

    def test_what_is_checked_at_the_end_comes_last(self):
        twice = short("quantity a 1", "quantity a 1", "formula a = b")
        self.refused(0, twice)
        self.refused(4, twice + "x")
        self.refused(4, twice + "x\n")

    def test_lines_that_do_not_form_a_system(self):
        one, same = "quantity a 1", "formula a = a"
        self.refused(0, "bases m m\nquantity a 1\nformula a = a\n")
        self.refused(0, "bases m s m\nquantity a 1\nformula a = a\n")
        self.refused(0, "bases a b c d\nquantity a 1\nformula a = a\n")
        self.refused(0, short(one, one, same))
        self.refused(0, short(one, "quantity b 1", "quantity a 2 = m", "formula a = b"))
        self.refused(0, short(*[f"quantity {name} 1" for name in "abcdefg"], same))
        self.refused(0, short(*["quantity a 1"] * 7, same))
        self.refused(0, short(one, *[same] * 7))
        self.refused(0, short("quantity a 1 = kg", same))
        self.refused(0, short("quantity a 1 = m s x^-1", same))
        self.refused(0, short(one, "formula a = b"))
        self.refused(0, short(one, "formula m = s"))
        self.refused(0, short(one, same, "formula a = (b ** 0)"))
        self.refused(0, short("quantity a 1 = m", "quantity b 1 = s", "formula a = b"))
        self.refused(0, short("quantity a 1 = m", "formula a = 1"))
        self.refused(0, short("quantity a 1 = m", "quantity b 1", "formula a = (b ** 2)"))

    def test_six_of_each_form_a_system(self):
        six = [f"quantity {name} 1" for name in "abcdef"]
        self.assertEqual(len(read_system(short(*six, *["formula a = a"] * 6)).names), 6)
        self.assertEqual(len(read_system("bases a b c\nquantity a 1\nformula a = a\n").bases), 3)

    def test_other_line_ends(self):
        self.refused(0, WAY.replace("\n", "\r\n"))
        self.refused(0, WAY.replace("\n", "\r"))
        self.refused(0, WAY.replace("\n", "\x0b"))
        self.refused(0, WAY.replace("\n", "\u2028"))
        self.refused(5, WAY[:-1] + "\r\n")

    def test_long_texts(self):
        many = 20000
        self.refused(0, "x\n" * many)
        self.refused(0, short(*["quantity a 1"] * many, "formula a = a"))
        self.refused(0, short("quantity a 1", *["formula a = a"] * many))
        self.refused(many + 1, short(*["quantity a 1"] * many))
        self.refused(2, short("quantity a 1", "formula a = " + "(" * many + "a" + " ** 1)" * many))
        self.refused(0, "bases" + " m" * many + "\nquantity a 1\nformula a = a\n")


class TestAgainstOracles(PromiseCase):

    def test_small_changes(self):
        picks = Picks(42)
        seen = {"accepted": 0, "together": 0}
        letters = ("\n", " ", "a", "1", "m", "s", "=", "-", "0", "(", ")", "2", "^")
        for _ in range(3000):
            text = edited(picks, system_text(picked_system(picks, 1)), letters)
            row = row_at_fault(text)
            if row is not None:
                self.refuses_text(row, read_system, text)
                seen[row] = seen.get(row, 0) + 1
                continue
            try:
                found = read_system(text)
            except BadText as error:
                self.assertEqual(error.row, 0)
                seen["together"] += 1
            else:
                self.assertEqual(system_text(found), text)
                seen["accepted"] += 1
        for key in ("accepted", "together", 0, 1, 2, 3, 4, 5):
            self.assertGreater(seen[key], 15)

    def test_lines_in_any_order(self):
        picks = Picks(43)
        lines = ("bases m\n", "quantity a 1\n", "quantity b 2\n", "formula a = b\n", "formula b = a\n", "x\n", "y")
        accepted = 0
        for _ in range(3000):
            text = "bases m\n" * min(picks.below(5), 1) + "quantity a 1\nquantity b 2\n" * min(picks.below(5), 1)
            text += "".join(picks.one_of(lines) for _ in range(picks.below(5)))
            row = row_at_fault(text)
            if row is not None:
                self.refuses_text(row, read_system, text)
            elif text.count("quantity a") > 1 or text.count("quantity b") != 1 or "quantity a" not in text:
                self.refuses_text(0, read_system, text)
            else:
                accepted += 1
                self.assertEqual(system_text(read_system(text)), text)
        self.assertGreater(accepted, 30)


class TestNothingKept(PromiseCase):

    def test_arguments_are_not_modified(self):
        system = way_system(speed=METRE // SECOND)
        system_text(system)
        self.assertTrue(system == way_system(speed=METRE // SECOND))

    def test_each_reading_is_new(self):
        one, other = read_system(WAY), read_system(WAY)
        self.assertIsNot(one, other)
        one.names.clear()
        one.formulas.clear()
        self.assertTrue(one == other)

    def test_errors_are_of_the_documented_class_only(self):
        self.refuses(BadSystem, system_text, None)
        self.refuses(BadText, read_system, None)


if __name__ == "__main__":
    unittest.main()
