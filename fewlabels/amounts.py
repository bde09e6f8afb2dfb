"""Amounts: integers with units, and the values of expressions for amounts of their quantities."""

from fewlabels.checks import is_whole_between
from fewlabels.errors import BadAmount, BadExpression, BadUnit, NoQuotient, TooLarge, UnlikeUnits
from fewlabels.formulas import Difference, Name, Number, Power, Product, Sum, is_expression
from fewlabels.units import Unit

LARGEST_AMOUNT = 10 ** 30
LARGEST_EXPONENT = 9


class Amount:
    """An integer with a unit; it never changes."""

    def __init__(self, number, unit):
        if not is_within_bounds(number):
            raise BadAmount("not an integer from -10 ** 30 to 10 ** 30")
        if not isinstance(unit, Unit):
            raise BadUnit("not a Unit")
        self._number = number
        self._unit = unit

    @classmethod
    def plain(cls, number):
        """An amount with the plain unit."""
        return cls(number, Unit({}))

    @property
    def number(self):
        """The integer."""
        return self._number

    @property
    def unit(self):
        """The unit."""
        return self._unit

    def __eq__(self, other):
        return isinstance(other, Amount) and self._number == other._number and self._unit == other._unit

    def __add__(self, other):
        check_like(self, other)
        return bounded(self._number + other._number, self._unit)

    def __sub__(self, other):
        check_like(self, other)
        return bounded(self._number - other._number, self._unit)

    def __mul__(self, other):
        check_amount(other)
        return bounded(self._number * other._number, self._unit * other._unit)

    def __floordiv__(self, other):
        check_amount(other)
        if other._number == 0:
            raise NoQuotient("the other integer is 0")
        return Amount(self._number // other._number, self._unit // other._unit)

    def __pow__(self, other):
        return self.to_power(other)

    # The rules of the language want a literal behind **, so the package itself calls this.
    def to_power(self, number):
        """The amount to the power of an integer from -9 to 9."""
        if not is_whole_between(number, -LARGEST_EXPONENT, LARGEST_EXPONENT):
            raise BadAmount("the exponent is not an integer from -9 to 9")
        if number < 0:
            return Amount.plain(1) // self.to_power(-number)
        found = Amount.plain(1)
        for _ in range(number):
            found = found * self
        return found

    def __neg__(self):
        return Amount(-self._number, self._unit)

    def __abs__(self):
        return Amount(abs(self._number), self._unit)

    def __bool__(self):
        return bool(self._number)

    def exceeds(self, other):
        """Whether the integer is greater than that of another amount with an equal unit."""
        check_like(self, other)
        return self._number > other._number


def is_within_bounds(thing):
    """Whether thing is an integer that an amount can have."""
    return is_whole_between(thing, -LARGEST_AMOUNT, LARGEST_AMOUNT)


def bounded(number, unit):
    """The amount that is the result of an operation, if its integer is within the bounds."""
    if not is_within_bounds(number):
        raise TooLarge("the integer of the result is beyond the bounds")
    return Amount(number, unit)


def check_amount(thing):
    """Refuse what is not an Amount."""
    if not isinstance(thing, Amount):
        raise BadAmount("the other operand is not an Amount")


def check_like(amount, thing):
    """Refuse what is not an Amount with the same unit."""
    check_amount(thing)
    if amount.unit != thing.unit:
        raise UnlikeUnits("the two amounts have different units")


def value(expression, amounts):
    """The amount that an expression has for a dict from its quantities to amounts."""
    if not is_expression(expression):
        raise BadExpression("not an Expression")
    if not isinstance(amounts, dict):
        raise BadAmount("the amounts are not in a dict")
    if not all([isinstance(amounts.get(name), Amount) for name in expression.names]):
        raise BadAmount("a quantity has no Amount")
    return computed(expression, amounts)


def computed(expression, amounts):
    """The value of an expression, all of whose quantities have amounts."""
    if isinstance(expression, Name):
        return amounts[expression.parts[0]]
    if isinstance(expression, Number):
        return Amount.plain(expression.parts[0])
    left = computed(expression.parts[0], amounts)
    if isinstance(expression, Power):
        return left.to_power(expression.parts[1])
    right = computed(expression.parts[1], amounts)
    if isinstance(expression, Sum):
        return left + right
    if isinstance(expression, Difference):
        return left - right
    if isinstance(expression, Product):
        return left * right
    return left // right
