"""Units, expressions and systems as text, and back."""

from fewlabels.checks import is_name, is_whole_between
from fewlabels.errors import BadExpression, BadSystem, BadText, BadUnit
from fewlabels.formulas import Formula, Name, Number, Power, is_expression
from fewlabels.systems import LARGEST_COST, System, check_system
from fewlabels.units import Unit

MOST_DIGITS = 9
LARGEST_WRITTEN = 999999999
SIGNS = {"Sum": "+", "Difference": "-", "Product": "*", "Quotient": "//", "Power": "**"}
# The words of an expression that are neither names nor numbers, but for the closing parenthesis.
MARKS = ("(", "+", "-", "*", "//", "**")


class Draft:
    """What the lines of a system say that are accepted so far."""

    def __init__(self):
        self._bases = ()
        self._quantities = []
        self._formulas = []

    def takes(self, line):
        """Whether a line is accepted behind the ones before; if it is, it is added."""
        if not self._bases:
            self._bases = bases_in(line)
            return self._bases != ()
        quantity = quantity_in(line)
        if quantity is not None and not self._formulas:
            self._quantities.append(quantity)
            return True
        formula = formula_in(line)
        if formula is not None and self._quantities:
            self._formulas.append(formula)
            return True
        return False

    def has_formulas(self):
        """Whether at least one formula is accepted."""
        return self._formulas != []

    def finished(self):
        """The system of all lines, or None if they do not form one."""
        quantities = dict(self._quantities)
        if len(quantities) < len(self._quantities):
            return None
        try:
            return System(self._bases, quantities, self._formulas)
        except BadSystem:
            return None


def unit_text(unit):
    """A unit as text."""
    if not isinstance(unit, Unit):
        raise BadUnit("not a Unit")
    powers = unit.powers
    if not all([is_whole_between(powers[base], -LARGEST_WRITTEN, LARGEST_WRITTEN) for base in powers]):
        raise BadUnit("an exponent has more than nine digits")
    words = [base if powers[base] == 1 else f"{base}^{powers[base]}" for base in powers]
    return " ".join(words) if words else "1"


def expression_text(expression):
    """An expression as text."""
    if not is_expression(expression):
        raise BadExpression("not an Expression")
    return part_text(expression)


def system_text(system):
    """A system as text."""
    check_system(system)
    lines = ["bases " + " ".join(system.bases)]
    lines.extend([quantity_line(system, name) for name in system.names])
    lines.extend([formula_line(formula) for formula in system.formulas])
    return "".join([line + "\n" for line in lines])


def read_unit(text):
    """The unit that is written as text."""
    check_text(text)
    unit = unit_in(text)
    if unit is None:
        raise BadText("not a unit")
    return unit


def read_expression(text):
    """The expression that is written as text."""
    check_text(text)
    expression = expression_in(text)
    if expression is None:
        raise BadText("not an expression")
    return expression


def read_system(text):
    """The system that is written as text."""
    check_text(text)
    *lines, rest = text.split("\n")
    draft = Draft()
    for row, line in enumerate(lines):
        if not draft.takes(line):
            raise BadText("this line is not accepted here", row)
    if rest or not draft.has_formulas():
        raise BadText("the text does not end with the line feed of a formula", len(lines))
    system = draft.finished()
    if system is None:
        raise BadText("the lines do not form a system")
    return system


def check_text(thing):
    """Refuse what is not a string."""
    if not isinstance(thing, str):
        raise BadText("not a string")


def part_text(part):
    """A part of an expression as text: an expression, a name or an integer."""
    if not is_expression(part):
        return str(part)
    if isinstance(part, (Name, Number)):
        return part_text(part.parts[0])
    left, right = part.parts
    sign = SIGNS[part.__class__.__name__]
    return f"({part_text(left)} {sign} {part_text(right)})"


def quantity_line(system, name):
    """The line of a quantity, without its line feed."""
    line = f"quantity {name} {system.cost(name)}"
    label = system.label(name)
    return line if label is None else f"{line} = {unit_text(label)}"


def formula_line(formula):
    """The line of a formula, without its line feed."""
    return f"formula {part_text(formula.left)} = {part_text(formula.right)}"


def number_in(text):
    """The integer that is written as text, or None."""
    digits = text.removeprefix("-")
    if not digits.isascii() or not digits.isdigit() or len(digits) > MOST_DIGITS:
        return None
    number = int(text)
    # What is written otherwise has leading zeros, or is -0.
    return number if str(number) == text else None


def unit_in(text):
    """The unit that is written as text, or None."""
    if text == "1":
        return Unit({})
    powers = {}
    for word in text.split(" "):
        base, mark, exponent = word.partition("^")
        power = number_in(exponent) if mark else 1
        if not is_name(base) or power is None:
            return None
        powers[base] = power
    unit = Unit(powers)
    # What is written otherwise has another order, a base unit twice, or an exponent that is left out.
    return unit if unit_text(unit) == text else None


def expression_in(text):
    """The expression that is written as text, or None."""
    # Signs, names and numbers stand between spaces already; with the parentheses apart, too, all words do.
    words = text.replace("(", "( ").replace(")", " )").split(" ")
    try:
        parts = parts_of(words)
    except BadExpression:
        return None
    return parts[0] if len(parts) == 1 and is_expression(parts[0]) else None


def parts_of(words):
    """The words, with an expression instead of each name, each number, and all between two parentheses."""
    parts = []
    for word in words:
        if word == ")":
            made = joined(parts[-4:])
            del parts[-4:]
        else:
            made = word if word in MARKS else operand(word)
        parts.append(made)
    return parts


def operand(word):
    """The name or the number that a word is."""
    return Name(word) if is_name(word) else Number(number_in(word))


def joined(parts):
    """The expression made of an opening parenthesis, an operand, a sign and an operand."""
    if len(parts) != 4 or parts[0] != "(" or not is_expression(parts[1]):
        raise BadExpression("no operand, sign and operand in parentheses")
    _, left, sign, right = parts
    if sign == "+":
        return left + right
    if sign == "-":
        return left - right
    if sign == "*":
        return left * right
    if sign == "//":
        return left // right
    if sign == "**" and isinstance(right, Number):
        return Power(left, right.parts[0])
    raise BadExpression("no sign between two operands, or no number as an exponent")


def bases_in(line):
    """The tuple of the base units in a line, or an empty one if it is not a line with bases."""
    first, *names = line.split(" ")
    if first != "bases" or not all([is_name(name) for name in names]):
        return ()
    return tuple(names)


def quantity_in(line):
    """The name, and the pair of cost and label, in a line, or None if it is not a line with a quantity."""
    start, mark, rest = line.partition(" = ")
    words = start.split(" ")
    if len(words) != 3 or words[0] != "quantity" or not is_name(words[1]):
        return None
    cost = number_in(words[2])
    label = unit_in(rest) if mark else None
    if not is_whole_between(cost, 1, LARGEST_COST) or (mark and label is None):
        return None
    return (words[1], (cost, label))


def formula_in(line):
    """The formula in a line, or None if it is not a line with one."""
    first, _, rest = line.partition(" ")
    sides = rest.split(" = ")
    if first != "formula" or len(sides) != 2:
        return None
    try:
        return Formula(expression_in(sides[0]), expression_in(sides[1]))
    except BadExpression:
        return None
