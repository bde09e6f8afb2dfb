"""The errors that the package raises: one class for each kind of failure."""


class LabelError(ValueError):
    """The base class of all errors of this package."""


class BadUnit(LabelError):
    """An argument is not a unit, or not what a unit is made of."""


class BadExpression(LabelError):
    """An argument is not an expression or a formula, or not what one is made of."""


class BadSystem(LabelError):
    """An argument is not a system, or not what one is made of; part says what is wrong in it."""

    def __init__(self, message="", part=None):
        super().__init__(message)
        self.part = part


class BadName(LabelError):
    """An argument is not the name of a quantity of the system."""


class BadSet(LabelError):
    """An argument is not a set of quantities of the system."""


class BadAssignment(LabelError):
    """An argument is not an assignment of units to all quantities of the system."""


class BadChain(LabelError):
    """An argument does not have the form of a chain."""


class BadAmount(LabelError):
    """An argument is not an amount, or not what an amount is made of."""


class UnlikeUnits(LabelError):
    """Two amounts have different units where they need the same one."""


class NoQuotient(LabelError):
    """An amount would be divided by zero."""


class TooLarge(LabelError):
    """The integer of a result would be beyond the bounds."""


class HasLabel(LabelError):
    """A quantity has a label already."""


class NotPossible(LabelError):
    """No assignment would fit all labels."""


class NothingWritten(LabelError):
    """There is no written label to take back."""


class BadText(LabelError):
    """A text cannot be read; row is the index of the line at fault."""

    def __init__(self, message="", row=0):
        super().__init__(message)
        self.row = row
