"""Values of expressions, found out from the words of [9], with pairs of an integer and a dict instead of amounts."""

from fewlabels.errors import NoQuotient, TooLarge, UnlikeUnits
from fewlabels.formulas import Difference, Name, Number, Power, Product, Sum

MOST = 10 ** 30


def within(number, powers):
    """The pair, without exponents of 0, if the integer is within the bounds."""
    if not -MOST <= number <= MOST:
        raise TooLarge("beyond")
    return number, {base: power for base, power in powers.items() if power}


def together(powers, others, sign):
    """The exponents of a product or, with the sign -1, of a quotient."""
    return {base: powers.get(base, 0) + sign * others.get(base, 0) for base in {**powers, **others}}


def quotient(left, right):
    """The quotient of two pairs."""
    if right[0] == 0:
        raise NoQuotient("by zero")
    return within(left[0] // right[0], together(left[1], right[1], -1))


def power(inner, number):
    """A power of a pair."""
    if number < 0:
        if inner[0] == 0:
            raise NoQuotient("by zero")
        return quotient((1, {}), power(inner, -number))
    return within(inner[0] ** number, {base: number * inner[1][base] for base in inner[1]})


def value_by_words(expression, pairs):
    """The value of an expression; an error of the package is raised where [9] refuses an operation."""
    parts = expression.parts
    if isinstance(expression, Name):
        return pairs[parts[0]]
    if isinstance(expression, Number):
        return parts[0], {}
    left = value_by_words(parts[0], pairs)
    if isinstance(expression, Power):
        return power(left, parts[1])
    right = value_by_words(parts[1], pairs)
    if isinstance(expression, (Sum, Difference)):
        if left[1] != right[1]:
            raise UnlikeUnits("unlike")
        return within(left[0] + right[0] if isinstance(expression, Sum) else left[0] - right[0], left[1])
    if isinstance(expression, Product):
        return within(left[0] * right[0], together(left[1], right[1], 1))
    return quotient(left, right)
