"""What [11] accepts as text, found out with regular expressions; and texts that are written from its words."""

import re

from fewlabels.formulas import Difference, Name, Number, Product, Quotient, Sum

NAME = "[a-z]{1,8}"
INTEGER = "(?:0|-?[1-9][0-9]{0,8})"
BASES = re.compile(f"bases( {NAME})+")
QUANTITY = re.compile(f"quantity {NAME} [1-9]( = (?P<unit>.*))?", re.DOTALL)
FORMULA = re.compile("formula (?P<left>[^=]*) = (?P<right>[^=]*)")
WORD = re.compile(f"({NAME})(?:\\^({INTEGER}))?")
LEAF = re.compile("[a-z]+|-?[0-9]+")
SIGN = re.compile(r" (\*\*|//|\+|-|\*) ")


def is_unit_text(text):
    """Whether a unit is written as this text."""
    if text == "1":
        return True
    matches = [WORD.fullmatch(word) for word in text.split(" ")]
    if not all(matches) or any(match.group(2) in ("0", "1") for match in matches):
        return False
    bases = [match.group(1) for match in matches]
    return all(one < other for one, other in zip(bases, bases[1:]))


def leaf_end(text, at):
    """Where a name or a number ends that begins here, or None."""
    match = LEAF.match(text, at)
    if not match:
        return None
    word = match.group()
    if re.fullmatch(NAME, word) or re.fullmatch(INTEGER, word) and -99 <= int(word) <= 99:
        return match.end()
    return None


def end_and_size(text, at):
    """Where an expression ends that begins here, and its nodes, or None."""
    if text[at:at + 1] != "(":
        end = leaf_end(text, at)
        return None if end is None else (end, 1)
    left = end_and_size(text, at + 1)
    sign = left and SIGN.match(text, left[0])
    if not sign:
        return None
    if sign.group(1) == "**":
        exponent = re.compile("0|-?[1-3]").match(text, sign.end())
        right = exponent and (exponent.end(), 0)
    else:
        right = end_and_size(text, sign.end())
    if not right or text[right[0]:right[0] + 1] != ")":
        return None
    return (right[0] + 1, left[1] + 1 + right[1])


def is_expression_text(text):
    """Whether an expression is written as this text."""
    found = end_and_size(text, 0)
    return found is not None and found[0] == len(text) and found[1] <= 20


def kind_of(line):
    """The kind of a line that has one of the three forms, or None."""
    if BASES.fullmatch(line):
        return "bases"
    match = QUANTITY.fullmatch(line)
    if match:
        return "quantity" if match.group("unit") is None or is_unit_text(match.group("unit")) else None
    match = FORMULA.fullmatch(line)
    if match and is_expression_text(match.group("left")) and is_expression_text(match.group("right")):
        return "formula" if re.search("[a-z]", match.group("left") + match.group("right")) else None
    return None


def row_at_fault(text):
    """The row with which a text is refused before its lines are put together, or None."""
    lines = re.findall("[^\n]*\n", text)
    kinds = "".join({"bases": "b", "quantity": "q", "formula": "f", None: "-"}[kind_of(line[:-1])] for line in lines)
    accepted = len(re.match("(?:b(?:q+f*)?)?", kinds).group())
    if accepted < len(lines):
        return accepted
    if "f" not in kinds or not text.endswith("\n"):
        return len(lines)
    return None


def expression_by_words(expression):
    """An expression as text."""
    parts = expression.parts
    if isinstance(expression, (Name, Number)):
        return f"{parts[0]}"
    left = expression_by_words(parts[0])
    signs = ((Sum, "+"), (Difference, "-"), (Product, "*"), (Quotient, "//"))
    for made, sign in signs:
        if isinstance(expression, made):
            return "(" + " ".join([left, sign, expression_by_words(parts[1])]) + ")"
    return f"({left} ** {parts[1]})"


def unit_by_words(unit):
    """A unit as text."""
    words = [f"{base}^{power}".removesuffix("^1") for base, power in sorted(unit.powers.items())]
    return " ".join(words) or "1"


def system_by_words(system):
    """A system as text."""
    text = " ".join(("bases", *system.bases)) + "\n"
    for name in system.names:
        text += f"quantity {name} {system.cost(name)}"
        if system.label(name) is not None:
            text += f" = {unit_by_words(system.label(name))}"
        text += "\n"
    for formula in system.formulas:
        text += f"formula {expression_by_words(formula.left)} = {expression_by_words(formula.right)}\n"
    return text


def edited(picks, text, letters):
    """The text with one or two small changes."""
    for _ in range(1 + picks.below(2)):
        at, many = picks.below(len(text) + 1), picks.below(3)
        text = text[:at] + picks.one_of(letters) * picks.below(2) + text[at + many:]
    return text
