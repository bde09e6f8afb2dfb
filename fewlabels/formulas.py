"""Expressions over quantities, and formulas, whose two sides have the same unit."""

from fewlabels.checks import is_name, is_whole_between
from fewlabels.errors import BadExpression
from fewlabels.units import Unit

MOST_NODES = 20
LARGEST_NUMBER = 99
LARGEST_EXPONENT = 3


class Expression:
    """What the seven classes of expressions share; an object of this class alone is no expression.

    The parts are the arguments that the expression was made of. Neither they nor the expression ever change.
    """

    def __init__(self, parts=()):
        self._parts = parts
        self._size = 1 + sum([operand.size for operand in self.operands])
        if self._size > MOST_NODES:
            raise BadExpression("an expression has at most 20 nodes")

    @property
    def parts(self):
        """The tuple of the arguments that the expression was made of."""
        return self._parts

    @property
    def operands(self):
        """The list of those parts that are expressions."""
        return [part for part in self._parts if isinstance(part, Expression)]

    @property
    def size(self):
        """The number of nodes."""
        return self._size

    @property
    def names(self):
        """The alphabetical list of the quantities, without duplicates."""
        return sorted(set(quantities_in(self)))

    def __eq__(self, other):
        if not isinstance(other, Expression):
            return False
        return self.__class__.__name__ == other.__class__.__name__ and self._parts == other._parts

    def __add__(self, other):
        return Sum(self, other)

    def __sub__(self, other):
        return Difference(self, other)

    def __mul__(self, other):
        return Product(self, other)

    def __floordiv__(self, other):
        return Quotient(self, other)

    def __pow__(self, other):
        return Power(self, other)


class Name(Expression):
    """A quantity."""

    def __init__(self, name):
        if not is_name(name):
            raise BadExpression("not a name")
        super().__init__((name,))


class Number(Expression):
    """An integer, whose unit is plain."""

    def __init__(self, number):
        if not is_whole_between(number, -LARGEST_NUMBER, LARGEST_NUMBER):
            raise BadExpression("not an integer from -99 to 99")
        super().__init__((number,))


class Sum(Expression):
    """A sum of two expressions, which must have the same unit."""

    def __init__(self, left, right):
        super().__init__(checked_pair(left, right))


class Difference(Expression):
    """A difference of two expressions, which must have the same unit."""

    def __init__(self, left, right):
        super().__init__(checked_pair(left, right))


class Product(Expression):
    """A product of two expressions."""

    def __init__(self, left, right):
        super().__init__(checked_pair(left, right))


class Quotient(Expression):
    """A quotient of two expressions."""

    def __init__(self, left, right):
        super().__init__(checked_pair(left, right))


class Power(Expression):
    """A power of an expression with an integer."""

    def __init__(self, inner, number):
        if not is_expression(inner):
            raise BadExpression("what is raised to a power is not an expression")
        if not is_whole_between(number, -LARGEST_EXPONENT, LARGEST_EXPONENT):
            raise BadExpression("the exponent is not an integer from -3 to 3")
        super().__init__((inner, number))


class Formula:
    """Two expressions, which must have the same unit; it never changes."""

    def __init__(self, left, right):
        self._left, self._right = checked_pair(left, right)
        if not self.names:
            raise BadExpression("a formula has a name in at least one of its sides")

    @property
    def left(self):
        """The left expression."""
        return self._left

    @property
    def right(self):
        """The right expression."""
        return self._right

    @property
    def names(self):
        """The alphabetical list of the quantities in both sides, without duplicates."""
        return sorted(set(self._left.names + self._right.names))

    def __eq__(self, other):
        return isinstance(other, Formula) and self._left == other._left and self._right == other._right

    def fits(self, units):
        """Whether all that must have the same unit has it, with these units of the quantities."""
        return all([unit_of(left, units) == unit_of(right, units) for left, right in like_pairs(self)])


def is_expression(thing):
    """Whether thing is an object of one of the seven classes of expressions."""
    return isinstance(thing, (Name, Number, Sum, Difference, Product, Quotient, Power))


def checked_pair(left, right):
    """The pair of both, if they are expressions."""
    if not is_expression(left) or not is_expression(right):
        raise BadExpression("not two expressions")
    return (left, right)


def quantities_in(expression):
    """The list of the quantities in an expression, from left to right, with duplicates."""
    if isinstance(expression, Name):
        return [expression.parts[0]]
    found = []
    for operand in expression.operands:
        found.extend(quantities_in(operand))
    return found


def unit_of(expression, units):
    """The unit of an expression; that of a sum or a difference is taken from its left operand."""
    if isinstance(expression, Name):
        return units[expression.parts[0]]
    if isinstance(expression, Number):
        return Unit({})
    left = unit_of(expression.parts[0], units)
    if isinstance(expression, Product):
        return left * unit_of(expression.parts[1], units)
    if isinstance(expression, Quotient):
        return left // unit_of(expression.parts[1], units)
    if isinstance(expression, Power):
        return left.to_power(expression.parts[1])
    return left


def like_pairs(formula):
    """The pairs of expressions that must have the same unit; the two sides come last."""
    pairs = sums_in(formula.left) + sums_in(formula.right)
    return pairs + [(formula.left, formula.right)]


def sums_in(expression):
    """The operands of each sum and difference in an expression, an expression before those in it."""
    found = []
    if isinstance(expression, (Sum, Difference)):
        found.append(expression.parts)
    for operand in expression.operands:
        found.extend(sums_in(operand))
    return found
