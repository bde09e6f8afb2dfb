"""Units: products of powers of base units."""

from fewlabels.checks import is_name, is_whole
from fewlabels.errors import BadUnit


class Unit:
    """A product of powers of base units; it never changes."""

    def __init__(self, powers):
        if not is_powers(powers):
            raise BadUnit("not a dict from names to integers")
        self._powers = {name: powers[name] for name in sorted(powers) if powers[name] != 0}

    @classmethod
    def base(cls, name):
        """The unit that is one base unit."""
        if not is_name(name):
            raise BadUnit("not a name")
        return cls({name: 1})

    @property
    def powers(self):
        """A dict from the base units, in alphabetical order, to their exponents."""
        return dict(self._powers)

    def __eq__(self, other):
        return isinstance(other, Unit) and self._powers == other._powers

    def __mul__(self, other):
        if not isinstance(other, Unit):
            raise BadUnit("a unit is multiplied by units only")
        return Unit(added(self._powers, other._powers, 1))

    def __floordiv__(self, other):
        if not isinstance(other, Unit):
            raise BadUnit("a unit is divided by units only")
        return Unit(added(self._powers, other._powers, -1))

    def __pow__(self, other):
        return self.to_power(other)

    # The rules of the language want a literal behind **, so the package itself calls this.
    def to_power(self, number):
        """The unit to the power of an integer."""
        if not is_whole(number):
            raise BadUnit("the exponent is not an integer")
        return Unit({name: self._powers[name] * number for name in self._powers})

    def __bool__(self):
        return bool(self._powers)

    def __contains__(self, x):
        return x in self._powers

    def __getitem__(self, at):
        return self._powers.get(at, 0)

    # Without this, Python would iterate by unit[0], unit[1] and so on, without an end.
    def __iter__(self):
        raise TypeError("a unit is not iterated over")


def is_powers(thing):
    """Whether thing is a dict from names to integers."""
    if not isinstance(thing, dict):
        return False
    return all([is_name(name) and is_whole(power) for name, power in thing.items()])


def added(powers, others, times):
    """The exponents in powers plus those in others, these multiplied with times."""
    total = dict(powers)
    for name in others:
        total[name] = total.get(name, 0) + times * others[name]
    return total
