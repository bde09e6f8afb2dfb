"""Systems: formulas over quantities, each of which has a cost and perhaps a label."""

from fewlabels.checks import is_name, is_whole_between
from fewlabels.errors import BadAssignment, BadName, BadSystem
from fewlabels.formulas import Formula, like_pairs, unit_of
from fewlabels.lattices import Lattice
from fewlabels.units import Unit

MOST_BASES = 3
MOST_QUANTITIES = 6
MOST_FORMULAS = 6
LARGEST_COST = 9


class System:
    """Base units, quantities with costs and labels, and formulas; it never changes."""

    def __init__(self, bases, quantities, formulas):
        check_bases(bases)
        check_quantities(quantities, bases)
        check_formulas(formulas, quantities)
        self._bases = bases
        self._quantities = dict(quantities)
        self._formulas = list(formulas)
        self._balances = balances_of(self._formulas, self.names)
        if found_fit(self) is None:
            raise BadSystem("no assignment fits", "FORMULAS")

    @property
    def bases(self):
        """The tuple of the base units."""
        return self._bases

    @property
    def names(self):
        """The list of the quantities, in order."""
        return list(self._quantities)

    @property
    def formulas(self):
        """The list of the formulas."""
        return list(self._formulas)

    def __eq__(self, other):
        if not isinstance(other, System):
            return False
        if self._bases != other._bases or self.names != other.names:
            return False
        return self._quantities == other._quantities and self._formulas == other._formulas

    def cost(self, name):
        """The cost of labelling a quantity."""
        check_quantity(self, name)
        return self._quantities[name][0]

    def label(self, name):
        """The unit with which a quantity is labelled, or None."""
        check_quantity(self, name)
        return self._quantities[name][1]

    def balances(self):
        """The list of the balances: dicts from all quantities, in order, to integers."""
        return [dict(balance) for balance in self._balances]

    def fits(self, assignment):
        """Whether an assignment has the labels and fulfils all formulas."""
        if not is_assignment(self, assignment):
            raise BadAssignment("not a dict from exactly all quantities to units of the base units")
        if not all([assignment[name] == self.label(name) for name in labelled_names(self)]):
            return False
        return all([formula.fits(assignment) for formula in self._formulas])


def check_bases(bases):
    """Refuse what is not a tuple of 1 to 3 different names."""
    if not isinstance(bases, tuple) or not 1 <= len(bases) <= MOST_BASES:
        raise BadSystem("the bases are not a tuple of 1 to 3 names", "BASES")
    if not all([is_name(base) for base in bases]):
        raise BadSystem("a base unit is not a name", "BASES")
    if len(set(bases)) < len(bases):
        raise BadSystem("a base unit occurs twice", "BASES")


def check_quantities(quantities, bases):
    """Refuse what is not a dict from 1 to 6 names to costs and labels."""
    if not isinstance(quantities, dict) or not 1 <= len(quantities) <= MOST_QUANTITIES:
        raise BadSystem("the quantities are not a dict of 1 to 6 items")
    for name, pair in quantities.items():
        if not is_name(name):
            raise BadSystem("a quantity is not a name", name)
        if not is_cost_and_label(pair, bases):
            raise BadSystem("a quantity does not have a cost and a label", name)


def is_cost_and_label(thing, bases):
    """Whether thing is a pair of a cost and a unit of these base units, or of a cost and None."""
    if not isinstance(thing, tuple) or len(thing) != 2 or not is_whole_between(thing[0], 1, LARGEST_COST):
        return False
    return thing[1] is None or is_unit_of(thing[1], bases)


def is_unit_of(thing, bases):
    """Whether thing is a unit of these base units."""
    return isinstance(thing, Unit) and all([base in bases for base in thing.powers])


def check_formulas(formulas, quantities):
    """Refuse what is not 1 to 6 formulas over these quantities."""
    if not isinstance(formulas, (list, tuple)) or not 1 <= len(formulas) <= MOST_FORMULAS:
        raise BadSystem("not a list or tuple of 1 to 6 formulas", "FORMULAS")
    for formula in formulas:
        if not isinstance(formula, Formula):
            raise BadSystem("what stands among the formulas is none", "FORMULAS")
        if not all([name in quantities for name in formula.names]):
            raise BadSystem("a formula has a name that is not a quantity", "FORMULAS")


def check_system(thing):
    """Refuse what is not a System."""
    if not isinstance(thing, System):
        raise BadSystem("not a System")


def check_quantity(system, thing):
    """Refuse what is not the name of a quantity of the system."""
    if not is_name(thing) or thing not in system.names:
        raise BadName("not a quantity of the system")


def is_assignment(system, thing):
    """Whether thing is a dict from exactly all quantities to units of the base units."""
    if not isinstance(thing, dict) or len(thing) != len(system.names):
        return False
    return all([name in thing and is_unit_of(thing[name], system.bases) for name in system.names])


def free_names(system):
    """The quantities without a label, in order."""
    return [name for name in system.names if system.label(name) is None]


def labelled_names(system):
    """The quantities with a label, in order."""
    return [name for name in system.names if system.label(name) is not None]


def balances_of(formulas, names):
    """The balances of formulas over these quantities."""
    # With each quantity as a base unit of its own, a unit tells the exponents of the quantities.
    units = {name: Unit.base(name) for name in names}
    found = []
    for formula in formulas:
        for left, right in like_pairs(formula):
            balance = unit_of(left, units) // unit_of(right, units)
            found.append({name: balance[name] for name in names})
    return found


def columns(balances, names):
    """For each of these quantities, the list of its integers in the balances."""
    return [[balance[name] for balance in balances] for name in names]


def found_fit(system):
    """Some assignment that fits, or None if none does."""
    powers = {name: {} for name in system.names}
    for base in system.bases:
        exponents = found_exponents(system, base)
        if exponents is None:
            return None
        for name, exponent in exponents.items():
            powers[name][base] = exponent
    return {name: Unit(powers[name]) for name in powers}


def found_exponents(system, base):
    """Exponents of a base unit in an assignment that fits, for each quantity; or None if no assignment fits."""
    balances = system.balances()
    fixed = {name: system.label(name)[base] for name in labelled_names(system)}
    # With the exponents of all quantities, each balance has the sum 0: the free ones make up for the labelled ones.
    target = [-sum([balance[name] * fixed[name] for name in fixed]) for balance in balances]
    free = free_names(system)
    found = Lattice(columns(balances, free), len(balances)).combination(target)
    # The sum that is found belongs to a multiple of the target; exponents are integers only if it is the target itself.
    if found is None or found[0] != 1:
        return None
    exponents = dict(zip(free, found[1]))
    return {**exponents, **fixed}
