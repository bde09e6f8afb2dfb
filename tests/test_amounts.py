"""Promise [9] without values, the class Amount of the section fewlabels/amounts.py, and [1] for both."""

import unittest

from fewlabels.amounts import Amount
from fewlabels.errors import BadAmount, BadUnit, NoQuotient, TooLarge, UnlikeUnits
from fewlabels.units import Unit
from tests.helpers import NO_AMOUNTS, NO_INTEGERS, NO_UNITS, PromiseCase
from tests.oracles import Picks, picked_unit

METRE, SECOND, PLAIN = Unit.base("m"), Unit.base("s"), Unit({})
MOST = 10 ** 30
PAIRS = (
    lambda one, other: one + other, lambda one, other: one - other, lambda one, other: one * other,
    lambda one, other: one // other, lambda one, other: one.exceeds(other),
)
plus, minus, times, over, exceeds = PAIRS


def to_the(amount, number):
    """The amount to the power of number."""
    return amount ** number


def metres(number):
    """An amount of metres."""
    return Amount(number, METRE)


def seconds(number):
    """An amount of seconds."""
    return Amount(number, SECOND)


class AmountCase(PromiseCase):

    def is_amount(self, found, number, unit):
        """Check both parts of what was found, and that it is an Amount."""
        self.assertIs(found.__class__, Amount)
        self.assertEqual([found.number, found.unit.powers], [number, unit.powers])
        self.assertIs(found.number.__class__, int)
        self.assertIs(found.unit.__class__, Unit)


class TestExample(unittest.TestCase):

    def test_example_of_the_document(self):
        way, time = Amount(70, Unit.base('m')), Amount(8, Unit.base('s'))
        speed = way // time
        found = [speed.number, speed.unit.powers, (way + way).exceeds(way), -way == way, abs(-way) == way,
                 bool(way - way)]
        self.assertEqual(found, [8, {'m': 1, 's': -1}, True, False, True, False])
        for at in range(2, 6):
            self.assertIs(found[at].__class__, bool)

    def test_methods_stand_in_the_class_itself(self):
        for word in ("__init__", "number", "unit", "__add__", "__sub__", "__mul__", "__floordiv__", "__pow__",
                     "__neg__", "__abs__", "__eq__", "__bool__", "exceeds", "plain"):
            with self.subTest(word=word):
                self.assertIn(word, vars(Amount))
        self.assertEqual(Amount.__module__, "fewlabels.amounts")


class TestMaking(AmountCase):

    def test_integers_within_the_bounds(self):
        for number in (0, 1, -1, 99, 10 ** 9, MOST - 1, MOST, 1 - MOST, -MOST):
            for unit in (PLAIN, METRE, METRE // SECOND ** 2, METRE ** 10 ** 20):
                self.is_amount(Amount(number, unit), number, unit)
            self.is_amount(Amount.plain(number), number, PLAIN)

    def test_integers_beyond(self):
        for number in (MOST + 1, -MOST - 1, 10 ** 31, -10 ** 31, 7 ** 9000):
            with self.subTest(number=number):
                self.refuses(BadAmount, Amount, number, METRE)
                self.refuses(BadAmount, Amount.plain, number)

    def test_not_an_integer(self):
        for thing in NO_INTEGERS + NO_AMOUNTS[6:] + (Amount.plain(1),):
            with self.subTest(thing=thing):
                self.refuses(BadAmount, Amount, thing, METRE)
                self.refuses(BadAmount, Amount.plain, thing)

    def test_not_a_unit(self):
        for thing in NO_UNITS:
            with self.subTest(thing=thing):
                self.refuses(BadUnit, Amount, 1, thing)
                self.refuses(BadUnit, Amount, -MOST, thing)

    def test_the_integer_is_checked_first(self):
        for thing in NO_UNITS:
            for number in (True, None, "1", MOST + 1):
                self.refuses(BadAmount, Amount, number, thing)

    def test_properties_cannot_be_assigned(self):
        amount = metres(3)
        for word, thing in (("number", 4), ("unit", SECOND)):
            with self.subTest(word=word), self.assertRaises(AttributeError):
                setattr(amount, word, thing)
        self.is_amount(amount, 3, METRE)


class TestSums(AmountCase):

    def test_equal_units(self):
        for one, other in ((3, 5), (3, -5), (-3, 5), (-3, -5), (0, 7), (7, 0), (0, 0), (10 ** 29, 10 ** 29)):
            for unit in (PLAIN, METRE, METRE // SECOND):
                self.is_amount(Amount(one, unit) + Amount(other, unit), one + other, unit)
                self.is_amount(Amount(one, unit) - Amount(other, unit), one - other, unit)

    def test_equal_units_that_were_made_in_other_ways(self):
        self.is_amount(Amount(1, METRE * SECOND) + Amount(2, Unit({"s": 1, "m": 1, "kg": 0})), 3, METRE * SECOND)
        self.is_amount(Amount(1, METRE // METRE) - Amount.plain(2), -1, PLAIN)

    def test_different_units(self):
        units = (PLAIN, METRE, SECOND, METRE ** 2, METRE ** -1, METRE * SECOND)
        for unit in units:
            for other in units:
                for operator in (plus, minus, exceeds):
                    if unit != other:
                        self.refuses(UnlikeUnits, operator, Amount(1, unit), Amount(1, other))
                        self.refuses(UnlikeUnits, operator, Amount(0, unit), Amount(0, other))

    def test_the_bounds(self):
        self.is_amount(metres(MOST - 1) + metres(1), MOST, METRE)
        self.is_amount(metres(1 - MOST) + metres(-1), -MOST, METRE)
        self.is_amount(metres(MOST - 1) - metres(-1), MOST, METRE)
        self.is_amount(metres(1 - MOST) - metres(1), -MOST, METRE)
        self.is_amount(metres(MOST) - metres(MOST), 0, METRE)
        self.is_amount(metres(MOST) + metres(-MOST), 0, METRE)

    def test_just_beyond(self):
        for operator, one, other in (
                (plus, MOST, 1), (plus, 1, MOST), (plus, -MOST, -1), (plus, MOST, MOST), (plus, -MOST, -MOST),
                (minus, MOST, -1), (minus, -MOST, 1), (minus, 1, -MOST), (minus, -MOST, MOST), (minus, MOST, -MOST)):
            with self.subTest(one=one, other=other):
                self.refuses(TooLarge, operator, metres(one), metres(other))

    def test_unlike_units_come_before_integers_beyond(self):
        self.refuses(UnlikeUnits, plus, metres(MOST), seconds(MOST))
        self.refuses(UnlikeUnits, minus, metres(MOST), Amount.plain(-MOST))


class TestProducts(AmountCase):

    def test_integers_and_units(self):
        for one, other in ((3, 5), (3, -5), (-3, 5), (-3, -5), (0, 7), (7, 0), (0, -MOST), (1, MOST), (-1, MOST)):
            self.is_amount(metres(one) * seconds(other), one * other, METRE * SECOND)
        self.is_amount(metres(2) * metres(3), 6, METRE ** 2)
        self.is_amount(metres(2) * Amount(3, METRE ** -1), 6, PLAIN)
        self.is_amount(metres(2) * Amount.plain(3), 6, METRE)

    def test_the_bounds(self):
        for one, other in ((10 ** 15, 10 ** 15), (-10 ** 15, 10 ** 15), (-10 ** 15, -10 ** 15), (MOST, -1),
                           (2, MOST // 2), (-2, MOST // 2)):
            self.is_amount(metres(one) * seconds(other), one * other, METRE * SECOND)

    def test_beyond(self):
        for one, other in ((10 ** 15 + 1, 10 ** 15), (-10 ** 15, 10 ** 15 + 1), (-10 ** 15 - 1, -10 ** 15), (MOST, 2),
                           (-2, MOST), (MOST, MOST), (2, MOST // 2 + 1)):
            with self.subTest(one=one, other=other):
                self.refuses(TooLarge, times, metres(one), seconds(other))
        # 10 ** 30 + 1 is 61 times another integer, so both bounds can be missed by one.
        self.refuses(TooLarge, times, metres(61), Amount.plain((MOST + 1) // 61))
        self.refuses(TooLarge, times, metres(-61), Amount.plain((MOST + 1) // 61))
        self.assertEqual((MOST + 1) % 61, 0)


class TestQuotients(AmountCase):

    def test_rounded_down_for_each_combination_of_signs(self):
        for one, other, expected in (
                (7, 2, 3), (-7, 2, -4), (7, -2, -4), (-7, -2, 3), (6, 2, 3), (-6, 2, -3), (6, -2, -3), (-6, -2, 3),
                (1, 9, 0), (-1, 9, -1), (1, -9, -1), (-1, -9, 0), (0, 5, 0), (0, -5, 0), (MOST, 3, MOST // 3),
                (-MOST, 3, -MOST // 3), (1, MOST, 0), (-1, MOST, -1), (MOST, -1, -MOST), (-MOST, -1, MOST),
                (MOST, MOST, 1)):
            with self.subTest(one=one, other=other):
                self.is_amount(metres(one) // seconds(other), expected, METRE // SECOND)

    def test_units(self):
        self.is_amount(metres(7) // metres(2), 3, PLAIN)
        self.is_amount(Amount.plain(7) // seconds(2), 3, SECOND ** -1)
        self.is_amount(metres(7) // Amount.plain(2), 3, METRE)

    def test_by_zero(self):
        for amount in (metres(1), metres(0), Amount.plain(-MOST)):
            for zero in (metres(0), seconds(0), Amount.plain(0), metres(5) - metres(5)):
                self.refuses(NoQuotient, over, amount, zero)


class TestPowers(AmountCase):

    def test_exponents_from_0_to_9(self):
        for base in (-99, -2, -1, 0, 1, 2, 3, 1000):
            for number in range(10):
                self.is_amount(metres(base) ** number, base ** number, METRE ** number)

    def test_0_to_the_power_of_0(self):
        self.is_amount(metres(0) ** 0, 1, PLAIN)
        self.is_amount(Amount.plain(0) ** 0, 1, PLAIN)
        self.is_amount(metres(0) ** 9, 0, METRE ** 9)

    def test_negative_exponents(self):
        for number in range(-9, 0):
            self.is_amount(metres(1) ** number, 1, METRE ** number)
            self.is_amount(metres(-1) ** number, -1 if number % 2 else 1, METRE ** number)
            self.is_amount(metres(2) ** number, 0, METRE ** number)
            self.is_amount(metres(-2) ** number, -1 if number % 2 else 0, METRE ** number)
            self.is_amount(metres(999) ** number, 0, METRE ** number)
            self.is_amount(metres(-999) ** number, -1 if number % 2 else 0, METRE ** number)

    def test_units(self):
        unit = METRE ** 2 // SECOND
        for number in range(-9, 10):
            self.is_amount(Amount(1, unit) ** number, 1, unit ** number)
            self.is_amount(Amount.plain(1) ** number, 1, PLAIN)

    def test_exponents_beyond(self):
        for number in (-10, 10, 11, -11, 10 ** 40, -10 ** 40):
            for base in (0, 1, -1, 2, MOST):
                with self.subTest(number=number, base=base):
                    self.refuses(BadAmount, to_the, metres(base), number)

    def test_exponents_that_are_no_integers(self):
        for thing in NO_INTEGERS + (Amount.plain(1), PLAIN, METRE):
            with self.subTest(thing=thing):
                self.refuses(BadAmount, to_the, metres(2), thing)
                self.refuses(BadAmount, to_the, metres(0), thing)

    def test_negative_exponents_of_0(self):
        for number in range(-9, 0):
            self.refuses(NoQuotient, to_the, metres(0), number)
            self.refuses(NoQuotient, to_the, Amount.plain(0), number)

    def test_the_bounds(self):
        for base, number in ((MOST, 1), (-MOST, 1), (10 ** 15, 2), (-10 ** 15, 2), (10 ** 10, 3), (-10 ** 10, 3),
                             (10 ** 5, 6), (2154, 9), (-2154, 9)):
            self.is_amount(metres(base) ** number, base ** number, METRE ** number)

    def test_just_beyond(self):
        for base, number in ((10 ** 15 + 1, 2), (-10 ** 15 - 1, 2), (10 ** 10 + 1, 3), (-10 ** 10 - 1, 3),
                             (10 ** 5 + 1, 6), (2155, 9), (-2155, 9), (MOST, 2), (MOST, 9)):
            self.assertGreater(abs(base ** number), MOST)
            self.refuses(TooLarge, to_the, metres(base), number)

    def test_beyond_with_a_negative_exponent_although_the_quotient_is_not(self):
        for base, number in ((10 ** 15, -2), (-10 ** 15, -2), (10 ** 10, -3), (-10 ** 10, -3), (2154, -9), (MOST, -1)):
            self.is_amount(metres(base) ** number, -1 if base < 0 and number % 2 else 0, METRE ** number)
        for base, number in ((10 ** 15 + 1, -2), (-10 ** 15 - 1, -2), (10 ** 10 + 1, -3), (-10 ** 10 - 1, -3),
                             (2155, -9), (-2155, -9), (MOST, -2), (-MOST, -9)):
            self.refuses(TooLarge, to_the, metres(base), number)


class TestOthers(AmountCase):

    def test_negated_and_absolute(self):
        for number in (0, 1, -1, 70, -70, MOST, -MOST):
            for unit in (PLAIN, METRE, METRE // SECOND):
                self.is_amount(-Amount(number, unit), -number, unit)
                self.is_amount(abs(Amount(number, unit)), abs(number), unit)

    def test_truth(self):
        for unit in (PLAIN, METRE):
            self.assertIs(bool(Amount(0, unit)), False)
            for number in (1, -1, MOST, -MOST):
                self.assertIs(bool(Amount(number, unit)), True)

    def test_equality(self):
        for number in (0, 3, -3, MOST):
            for unit in (PLAIN, METRE, METRE // SECOND):
                self.assertIs(Amount(number, unit) == Amount(number, Unit(unit.powers)), True)
                self.assertIs(Amount(number, unit) != Amount(number, Unit(unit.powers)), False)
                for other in (Amount(number - 1, unit), Amount(number, unit * METRE), Amount(1 - number, unit * METRE)):
                    self.assertIs(Amount(number, unit) == other, False)
                    self.assertIs(Amount(number, unit) != other, True)
        self.assertIs(metres(0) == Amount.plain(0), False)
        self.assertIs(metres(3) == metres(-3), False)

    def test_other_kinds_are_not_equal(self):
        for thing in (None, True, 0, 1, "", (), (1, PLAIN), [], {}, PLAIN, METRE):
            self.assertIs(Amount.plain(1) == thing, False)
            self.assertIs(Amount.plain(1) != thing, True)

    def test_exceeds(self):
        for one in (-MOST, -3, -2, 0, 2, 3, MOST):
            for other in (-MOST, -3, -2, 0, 2, 3, MOST):
                self.assertIs(metres(one).exceeds(metres(other)), one > other)

    def test_the_other_one_is_not_an_amount(self):
        for operator in PAIRS:
            for thing in NO_AMOUNTS:
                with self.subTest(thing=thing):
                    self.refuses(BadAmount, operator, metres(0), thing)
                    self.refuses(BadAmount, operator, Amount.plain(MOST), thing)

    def test_plain_is_a_class_method(self):
        self.is_amount(metres(1).plain(4), 4, PLAIN)

    def test_nothing_is_kept_and_nothing_changes(self):
        powers = {"m": 1}
        one, other = Amount(7, Unit(powers)), metres(2)
        powers["m"] = 5
        one.unit.powers["m"] = 5
        for operator in PAIRS:
            operator(one, other)
        self.assertEqual([(one ** 2).number, (-one).number, abs(-one).number], [49, -7, 7])
        for operator, thing in ((plus, seconds(1)), (minus, None), (times, metres(MOST)), (over, metres(0)),
                                (exceeds, seconds(1)), (to_the, 10), (to_the, True)):
            with self.assertRaises(ValueError):
                operator(one, thing)
        self.is_amount(one, 7, METRE)
        self.is_amount(other, 2, METRE)

    def test_against_integers_and_units(self):
        picks = Picks(11)
        for _ in range(500):
            one, other = (Amount(picks.below(2001) - 1000, picked_unit(picks, ("m", "s"), 2)) for _ in range(2))
            like = Amount(picks.below(2001) - 1000, one.unit)
            self.is_amount(one + like, one.number + like.number, one.unit)
            self.is_amount(one - like, one.number - like.number, one.unit)
            self.is_amount(one * other, one.number * other.number, one.unit * other.unit)
            if other.number:
                self.is_amount(one // other, one.number // other.number, one.unit // other.unit)


if __name__ == "__main__":
    unittest.main()
