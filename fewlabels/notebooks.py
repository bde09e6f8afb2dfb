"""Notebooks: systems in which labels are written one by one."""

from fewlabels.errors import BadSystem, BadUnit, HasLabel, NothingWritten, NotPossible
from fewlabels.following import known
from fewlabels.systems import System, check_quantity, check_system, found_fit, is_unit_of


class Notebook:
    """A system in which labels can be written, and the last one that was written can be taken back."""

    # The last one of the systems has all labels; each of the others has one label less than the one behind it.
    def __init__(self, system):
        check_system(system)
        self._systems = [with_labels(system, {})]
        self._written = []
        self._units = known_units(self.system)

    @property
    def written(self):
        """The list of the names whose labels were written, in this order."""
        return list(self._written)

    @property
    def system(self):
        """The system with all labels."""
        return self._systems[-1]

    def write(self, name, unit):
        """Label a quantity with a unit."""
        check_label(self.system, name, unit)
        if self.system.label(name) is not None:
            raise HasLabel("the quantity has a label")
        labelled = with_labels(self.system, {name: unit})
        if labelled is None:
            raise NotPossible("no assignment would fit all labels")
        self._systems.append(labelled)
        self._written.append(name)
        self._units = known_units(labelled)

    def undo(self):
        """Take back the last label that was written, and return the name of its quantity."""
        if not self._written:
            raise NothingWritten("no label was written")
        self._systems.pop()
        self._units = known_units(self.system)
        return self._written.pop()

    def allows(self, name, unit):
        """Whether the quantity could be labelled with the unit now."""
        check_label(self.system, name, unit)
        return self.system.label(name) is None and with_labels(self.system, {name: unit}) is not None

    def __contains__(self, x):
        check_quantity(self.system, x)
        return x in self._units

    def __getitem__(self, at):
        check_quantity(self.system, at)
        return self._units.get(at)

    # Without this, Python would iterate by notebook[0], notebook[1] and so on.
    def __iter__(self):
        raise TypeError("a notebook is not iterated over")

    def __len__(self):
        return len(self._units)

    def __bool__(self):
        return bool(len(self._units) == len(self.system.names))


def check_label(system, name, unit):
    """Refuse what is not a quantity of the system with a unit of its base units."""
    check_quantity(system, name)
    if not is_unit_of(unit, system.bases):
        raise BadUnit("not a unit of the base units")


def with_labels(system, labels):
    """The system with further labels, given as a dict from quantities to units; None if no assignment would fit it."""
    quantities = {name: (system.cost(name), labels.get(name, system.label(name))) for name in system.names}
    try:
        return System(system.bases, quantities, system.formulas)
    except BadSystem:
        return None


def known_units(system):
    """A dict from the quantities whose units are known from the labels alone to these units."""
    # All assignments that fit agree on these quantities, so any one of them tells their units.
    assignment = found_fit(system)
    return {name: assignment[name] for name in known(system, ())}
