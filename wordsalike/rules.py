"""Rules and working: how a row leads to another value because of what its operands are.

Rows stand over classes here: members has the row of each class, None for the inputs.
"""

from wordsalike.rows import EVEN, numbers_of, operands_of
from wordsalike.running import row_value
from wordsalike.words import to_word

# The number beside which the other operand is the value; in a difference only as the second one.
NEUTRAL = {"add": 0, "sub": 0, "mul": 1, "and": -1, "or": 0, "xor": 0}
# The numbers with which the operand is the value.
IDLE = {"left": (0,), "right": (0,), "signed": (0,), "quo": (1,), "scale": (1, 0, 0)}
# The number that is the value whatever the other operand is.
ABSORBING = {"mul": 0, "and": 0, "or": -1}
# The number that is the value if both operands are the same one.
PAIRED = {"sub": 0, "xor": 0, "less": 0, "same": 1}


def number_in(members, at):
    """The number of a class of rows with number, None for another class."""
    row = members[at]
    return row[1] if row is not None and row[0] == "number" else None


def operand_orders(row):
    """A list of the orders in which the two operands of a row can be read."""
    one, other = operands_of(row)
    return [(one, other), (other, one)] if row[0] in EVEN else [(one, other)]


def _values_of_two(row, members, width):
    """A list of the classes to which rules lead from a row with two operands."""
    operation = row[0]
    found = []
    for kept, other in operand_orders(row):
        if operation in NEUTRAL and number_in(members, other) == to_word(NEUTRAL[operation], width):
            found.append(kept)
        if operation in ("and", "or") and kept == other:
            found.append(kept)
    return found


def _values_of_pick(row, members):
    """A list of the classes to which rules lead from a pick."""
    condition, one, other = operands_of(row)
    number = number_in(members, condition)
    found = [one] if one == other else []
    if number is not None:
        found.append(one if number != 0 else other)
    return found


def _values_of_one(row, members):
    """A list of the classes to which rules lead from a row with one operand."""
    operation = row[0]
    inner = members[row[1]]
    if operation in IDLE and numbers_of(row) == IDLE[operation]:
        return [row[1]]
    if operation in ("not", "neg") and inner is not None and inner[0] == operation:
        return [inner[1]]
    return []


def _numbers_of_two(row, members, width):
    """A list of the numbers to which rules lead from a row with two operands."""
    operation = row[0]
    first, second = operands_of(row)
    found = []
    if operation in PAIRED and first == second:
        found.append(PAIRED[operation])
    for operand in (first, second):
        if operation in ABSORBING and number_in(members, operand) == to_word(ABSORBING[operation], width):
            found.append(to_word(ABSORBING[operation], width))
    if operation == "less" and (number_in(members, second) == 0 or number_in(members, first) == to_word(-1, width)):
        found.append(0)
    return found


def ruled_values(row, members, width):
    """A list of the classes to which rules lead from a row."""
    many = len(operands_of(row))
    if many == 0:
        return []
    if many == 1:
        return _values_of_one(row, members)
    return _values_of_two(row, members, width) if many == 2 else _values_of_pick(row, members)


def ruled_numbers(row, members, width):
    """A list of the numbers to which rules lead from a row."""
    if len(operands_of(row)) == 2:
        return _numbers_of_two(row, members, width)
    return [0] if row[0] == "rem" and numbers_of(row) == (1,) else []


def worked_number(row, members, width):
    """The number to which working leads from a row, None if it leads nowhere."""
    operands = operands_of(row)
    numbers = {operand: number_in(members, operand) for operand in operands}
    if len(operands) == 0 or any([numbers[operand] is None for operand in operands]):
        return None
    return row_value(row, numbers, width)
