"""Promise [7] as far as it speaks of balances, with balances() of the section fewlabels/systems.py."""

import unittest

from fewlabels.formulas import Formula, Name, Number
from fewlabels.systems import System
from fewlabels.units import Unit
from tests.helpers import plain_system
from tests.oracles import Picks, balances_by_words, picked_formula

A, B, C, D = Name("a"), Name("b"), Name("c"), Name("d")


def balances(names, *formulas):
    """The integers of the balances, without the names."""
    return [tuple(balance.values()) for balance in plain_system(names, *formulas).balances()]


class TestExample(unittest.TestCase):

    def test_example_of_the_document(self):
        way = Formula(Name('way'), Name('speed') * Name('time') + Name('start'))
        quantities = {'way': (2, None), 'speed': (1, None), 'time': (3, None), 'start': (1, None)}
        system = System(('m', 's'), quantities, [way])
        self.assertEqual(system.balances(), [
            {'way': 0, 'speed': 1, 'time': 1, 'start': -1}, {'way': 1, 'speed': -1, 'time': -1, 'start': 0}])


class TestBalances(unittest.TestCase):

    def test_keys_are_all_quantities_in_the_order_of_the_system(self):
        found = plain_system("cab", Formula(A + B, A)).balances()
        self.assertEqual([list(balance) for balance in found], [["c", "a", "b"]] * 2)
        self.assertEqual(found, [{"a": 1, "b": -1, "c": 0}, {"a": 0, "b": 0, "c": 0}])

    def test_values_are_integers(self):
        for balance in plain_system("ab", Formula(A + Number(1), B)).balances():
            for integer in balance.values():
                self.assertIs(integer.__class__, int)

    def test_a_formula_without_a_sum(self):
        self.assertEqual(balances("ab", Formula(A, B)), [(1, -1)])
        self.assertEqual(balances("ab", Formula(A * B, Number(3))), [(1, 1)])
        self.assertEqual(balances("ab", Formula(Number(3), A // B)), [(-1, 1)])

    def test_a_sum_comes_before_those_in_it(self):
        self.assertEqual(balances("abcd", Formula((A + B) - (C + D), Number(1))), [
            (1, 0, -1, 0), (1, -1, 0, 0), (0, 0, 1, -1), (1, 0, 0, 0)])
        self.assertEqual(balances("abcd", Formula(((A - B) + C) + D, Number(1))), [
            (1, 0, 0, -1), (1, 0, -1, 0), (1, -1, 0, 0), (1, 0, 0, 0)])
        self.assertEqual(balances("abcd", Formula(A + (B + (C - D)), Number(1))), [
            (1, -1, 0, 0), (0, 1, -1, 0), (0, 0, 1, -1), (1, 0, 0, 0)])

    def test_the_left_one_first_in_products_quotients_and_powers(self):
        self.assertEqual(balances("abcd", Formula((A + B) * (C - D), Number(1))), [
            (1, -1, 0, 0), (0, 0, 1, -1), (1, 0, 1, 0)])
        self.assertEqual(balances("abcd", Formula((A - B) // (C + D), Number(1))), [
            (1, -1, 0, 0), (0, 0, 1, -1), (1, 0, -1, 0)])
        self.assertEqual(balances("abc", Formula((A - B) ** 3 * C, Number(1))), [(1, -1, 0), (3, 0, 1)])

    def test_the_left_side_then_the_right_one_then_both(self):
        self.assertEqual(balances("abcd", Formula(A + B, (C + D) * C)), [
            (1, -1, 0, 0), (0, 0, 1, -1), (1, 0, -2, 0)])
        self.assertEqual(balances("abcd", Formula(D, A + B), Formula(B - C, D)), [
            (1, -1, 0, 0), (-1, 0, 0, 1), (0, 1, -1, 0), (0, 1, 0, -1)])

    def test_the_exponent_in_a_sum_is_that_in_its_left_operand(self):
        self.assertEqual(balances("abc", Formula((A ** 2 + B) * C, A)), [(2, -1, 0), (1, 0, 1)])
        self.assertEqual(balances("abc", Formula((A ** 2 - B) // C, A)), [(2, -1, 0), (1, 0, -1)])
        self.assertEqual(balances("ab", Formula(Number(1) + A, B)), [(-1, 0), (0, -1)])

    def test_numbers_have_none(self):
        self.assertEqual(balances("a", Formula(Number(5) * A, Number(-99))), [(1,)])
        self.assertEqual(balances("a", Formula(A, Number(1) + Number(2))), [(0,), (1,)])
        self.assertEqual(balances("a", Formula(A + Number(0), A)), [(1,), (0,)])
        self.assertEqual(balances("a", Formula(Number(2) ** 3, A)), [(-1,)])

    def test_powers(self):
        for number in range(-3, 4):
            self.assertEqual(balances("ab", Formula(A, B ** number)), [(1, -number)])
            self.assertEqual(balances("ab", Formula((A * B ** -2) ** number, B)), [(number, -2 * number - 1)])
            self.assertEqual(balances("ab", Formula((A + B) ** number, B)), [(1, -1), (number, -1)])

    def test_a_sum_within_a_power_of_zero_still_has_a_balance(self):
        self.assertEqual(balances("ab", Formula((A - B) ** 0, Number(1))), [(1, -1), (0, 0)])

    def test_a_quantity_on_both_sides(self):
        self.assertEqual(balances("ab", Formula(A * B, A)), [(0, 1)])
        self.assertEqual(balances("ab", Formula(A, A * A // B)), [(-1, 1)])
        self.assertEqual(balances("a", Formula(A, A)), [(0,)])
        self.assertEqual(balances("ab", Formula(A + A * B, B)), [(0, -1), (1, -1)])

    def test_equal_formulas_have_a_balance_each(self):
        self.assertEqual(balances("ab", Formula(A, B), Formula(A, B)), [(1, -1), (1, -1)])

    def test_labels_change_no_balance(self):
        labels = {"a": (1, Unit.base("m")), "b": (1, None)}
        self.assertEqual(System(("m",), labels, [Formula(A, B)]).balances(), [{"a": 1, "b": -1}])

    def test_large_exponents(self):
        side = A
        for _ in range(19):
            side = side ** 3
        self.assertEqual(balances("ab", Formula(side, B)), [(3 ** 19, -1)])

    def test_as_many_balances_as_fit_in_a_system(self):
        side = A
        for _ in range(9):
            side = side + B
        expected = [(1, -1)] * 18 + [(0, 0)]
        self.assertEqual(balances("ab", *[Formula(side, side)] * 6), expected * 6)

    def test_against_the_words_of_the_document(self):
        picks = Picks(2)
        for _ in range(200):
            names = picks.one_of(("a", "ab", "cba", "dabc"))
            formulas = [picked_formula(picks, names, 3) for _ in range(1 + picks.below(3))]
            found = [list(balance.items()) for balance in plain_system(names, *formulas).balances()]
            self.assertEqual(found, balances_by_words(names, formulas))


if __name__ == "__main__":
    unittest.main()
