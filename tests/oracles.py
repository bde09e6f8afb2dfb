"""What the package finds out, found out in other ways: slowly, and straight from the words of the document."""

import itertools
import math
from fractions import Fraction

from fewlabels.errors import BadExpression
from fewlabels.formulas import Difference, Formula, Name, Number, Power, Product, Quotient, Sum
from fewlabels.systems import System
from fewlabels.units import Unit


class Picks:
    """A row of picks that is always the same for the same seed."""

    def __init__(self, seed):
        self._state = seed * 7919 + 17

    def below(self, count):
        """An integer from 0 to count - 1."""
        self._state = (self._state * 6364136223846793005 + 1442695040888963407) % 2 ** 64
        return (self._state >> 33) % count

    def one_of(self, things):
        """One of the things."""
        return things[self.below(len(things))]


def picked_expression(picks, names, depth):
    """Some expression with these quantities."""
    kind = picks.below(8)
    if depth == 0 or kind == 0:
        return Name(picks.one_of(names)) if picks.below(8) else Number(picks.below(19) - 9)
    if kind == 1:
        return Power(picked_expression(picks, names, depth - 1), picks.below(7) - 3)
    made = picks.one_of((Sum, Difference, Product, Product, Product, Quotient, Quotient))
    return made(picked_expression(picks, names, depth - 1), picked_expression(picks, names, depth - 1))


def picked_formula(picks, names, depth):
    """Some formula with these quantities."""
    while True:
        try:
            return Formula(picked_expression(picks, names, depth), picked_expression(picks, names, depth))
        except BadExpression:
            pass


def picked_unit(picks, bases, most):
    """Some unit of these base units with small exponents."""
    return Unit({base: picks.below(2 * most + 1) - most for base in bases})


def picked_system(picks, depth):
    """Some system; its labels are picked until some assignment fits."""
    bases = ("m", "s")[:1 + picks.below(2)]
    names = picks.one_of(("a", "ba", "cab", "dacb", "edcba"))
    formulas = [picked_formula(picks, names, depth) for _ in range(1 + picks.below(3))]
    share = 2 + picks.below(3)
    while True:
        labels = {name: None if picks.below(share) else picked_unit(picks, bases, 1) for name in names}
        quantities = {name: (1 + picks.below(9), labels[name]) for name in names}
        if some_fit_exists(bases, quantities, formulas):
            return System(bases, quantities, formulas)
        share = share + 1


def exponents_in(expression, name):
    """The exponent of a quantity in an expression, by the words of [3] and [7]."""
    parts = expression.parts
    if isinstance(expression, Name):
        return 1 if parts[0] == name else 0
    if isinstance(expression, Number):
        return 0
    if isinstance(expression, (Sum, Difference)):
        return exponents_in(parts[0], name)
    if isinstance(expression, Product):
        return exponents_in(parts[0], name) + exponents_in(parts[1], name)
    if isinstance(expression, Quotient):
        return exponents_in(parts[0], name) - exponents_in(parts[1], name)
    return exponents_in(parts[0], name) * parts[1]


def pairs_in(expression):
    """The operands of the sums and differences in an expression, in the order of [7]."""
    if isinstance(expression, (Name, Number)):
        return []
    if isinstance(expression, Power):
        return pairs_in(expression.parts[0])
    own = [expression.parts] if isinstance(expression, (Sum, Difference)) else []
    return own + pairs_in(expression.parts[0]) + pairs_in(expression.parts[1])


def balances_by_words(names, formulas):
    """The balances, as lists of pairs of a quantity and an integer."""
    found = []
    for formula in formulas:
        for left, right in pairs_in(formula.left) + pairs_in(formula.right) + [(formula.left, formula.right)]:
            found.append([(name, exponents_in(left, name) - exponents_in(right, name)) for name in names])
    return found


def rank(rows):
    """The number of rows that are independent."""
    rows = [[Fraction(number) for number in row] for row in rows]
    found = 0
    for column in range(len(rows[0]) if rows else 0):
        begun = [row for row in rows[found:] if row[column] != 0]
        if not begun:
            continue
        chosen = begun[0]
        others = [row for row in rows[found:] if row is not chosen]
        rows[found:] = [chosen] + [
            [mine - row[column] / chosen[column] * its for mine, its in zip(row, chosen)] for row in others]
        found += 1
    return found


def determinant(rows):
    """The determinant of a square of integers."""
    if not rows:
        return 1
    total = 0
    for at, first in enumerate(rows[0]):
        if first:
            total += (-1) ** at * first * determinant([row[:at] + row[at + 1:] for row in rows[1:]])
    return total


def minors_divisor(rows, size):
    """The greatest common divisor of the determinants of all squares of this size within the rows."""
    divisor = 0
    for some in itertools.combinations(rows, size):
        for places in itertools.combinations(range(len(rows[0])), size):
            divisor = math.gcd(divisor, determinant([[row[at] for at in places] for row in some]))
    return divisor


def has_integer_solution(rows, right):
    """Whether integers exist with which the rows give the right sides.

    They exist if the right sides, as one more column, change neither the rank nor the divisor of the minors.
    """
    wider = [row + [number] for row, number in zip(rows, right)]
    size = rank(rows)
    return size == rank(wider) and minors_divisor(rows, size) == minors_divisor(wider, size)


def some_fit_exists(bases, quantities, formulas):
    """Whether at least one assignment fits."""
    names = list(quantities)
    free = [name for name in names if quantities[name][1] is None]
    balances = [dict(balance) for balance in balances_by_words(names, formulas)]
    rows = [[balance[name] for name in free] for balance in balances]
    for base in bases:
        fixed = {name: quantities[name][1].powers.get(base, 0) for name in names if name not in free}
        right = [-sum(balance[name] * fixed[name] for name in fixed) for balance in balances]
        if not has_integer_solution(rows, right):
            return False
    return True


def sets_by_size(system):
    """All sets of quantities without a label."""
    free = [name for name in system.names if system.label(name) is None]
    return [names for size in range(len(free) + 1) for names in itertools.combinations(free, size)]


def known_by_rank(system, names):
    """The quantities that are known: without one that is not, the balances lose no rank."""
    balances = [dict(balance) for balance in balances_by_words(system.names, system.formulas)]
    free = [name for name in system.names if system.label(name) is None and name not in names]
    found = []
    for name in system.names:
        others = [other for other in free if other != name]
        whole = rank([[balance[other] for other in free] for balance in balances])
        if name not in free or whole > rank([[balance[other] for other in others] for balance in balances]):
            found.append(name)
    return found


def is_chain_by_words(system, names, name, chain):
    """Whether a pair is a chain, by the words of [7]."""
    times, integers = chain
    if name in names or system.label(name) is not None:
        return times == 1 and integers == ()
    balances = [dict(balance) for balance in balances_by_words(system.names, system.formulas)]
    if times <= 0 or len(integers) != len(balances):
        return False
    for other in system.names:
        total = sum(integer * balance[other] for integer, balance in zip(integers, balances))
        if other == name and total != times:
            return False
        if other != name and other not in names and system.label(other) is None and total != 0:
            return False
    return True


def first_cheapest(system):
    """The first cheapest set that is enough, by trying all sets."""
    found = []
    for names in sets_by_size(system):
        if known_by_rank(system, names) == system.names:
            cost = sum(system.cost(name) for name in names)
            found.append((cost, [system.names.index(name) for name in names], names))
    return min(found)[2]


def doubts_suffice(system, doubts, cost):
    """Whether the doubts are pairs of different assignments that fit, and each cheaper set agrees on one of them."""
    for one, other in doubts:
        if one == other or not system.fits(one) or not system.fits(other):
            return False
    for names in sets_by_size(system):
        agreeing = [one for one, other in doubts if all(one[name] == other[name] for name in names)]
        if sum(system.cost(name) for name in names) < cost and not agreeing:
            return False
    return True


def shows_by_words(system, labelling):
    """Whether chains show that the set is enough, and doubts that no cheaper one is."""
    labelled = labelling.labelled
    for name in system.names:
        if not is_chain_by_words(system, labelled, name, labelling.chains[name]):
            return False
    return doubts_suffice(system, labelling.doubts, sum(system.cost(name) for name in labelled))
