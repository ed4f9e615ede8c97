"""The rows of programs."""

from wordsalike.words import greatest_word, is_integer, is_integer_within

# The values before the first row: the words of an input.
INPUTS = 4
# A program has at most so many outs.
MOST_OUTS = 4

# Each operation, in the order of their classes, with the number of its operands.
OPERAND_COUNTS = {
    "number": 0,
    "not": 1,
    "neg": 1,
    "left": 1,
    "right": 1,
    "signed": 1,
    "quo": 1,
    "rem": 1,
    "scale": 1,
    "add": 2,
    "sub": 2,
    "mul": 2,
    "and": 2,
    "or": 2,
    "xor": 2,
    "less": 2,
    "same": 2,
    "pick": 3,
}

# The operations whose operands may be exchanged.
EVEN = ("add", "mul", "and", "or", "xor", "same")


def row_bounds(operation, width):
    """A tuple with the bounds of each number that stands behind the operands."""
    greatest = greatest_word(width)
    if operation == "number":
        return ((0, greatest),)
    if operation in ("left", "right", "signed"):
        return ((0, width - 1),)
    if operation in ("quo", "rem"):
        return ((1, greatest),)
    if operation == "scale":
        return ((0, greatest), (0, greatest), (0, 2 * width))
    return ()


def operands_of(row):
    """The operands of a row."""
    return row[1:1 + OPERAND_COUNTS[row[0]]]


def numbers_of(row):
    """The further numbers of a row, behind its operands."""
    return row[1 + OPERAND_COUNTS[row[0]]:]


def with_operands(row, operands):
    """The row with others in the place of its operands."""
    return (row[0], *operands, *numbers_of(row))


def are_same_rows(one, other):
    """Whether two rows are equal, or even with their operands exchanged."""
    if one[0] in EVEN and one[0] == other[0]:
        return sorted(list(operands_of(one))) == sorted(list(operands_of(other)))
    return one == other


def rows_by_value(rows):
    """A list with the row of each value, None for the inputs."""
    return [*[None for _ in range(INPUTS)], *rows]


def is_row_form(value, width):
    """Whether any value is a row if its operands may be any integers."""
    if not isinstance(value, tuple) or len(value) == 0:
        return False
    operation = value[0]
    # A list or a dict must not be looked up: it cannot be a key.
    if not isinstance(operation, str) or operation not in OPERAND_COUNTS:
        return False
    bounds = row_bounds(operation, width)
    if len(value) != 1 + OPERAND_COUNTS[operation] + len(bounds):
        return False
    if not all([is_integer(operand) for operand in operands_of(value)]):
        return False
    return all([is_integer_within(number, low, high) for number, (low, high) in zip(numbers_of(value), bounds)])


def are_values(numbers, many):
    """Whether all of some integers are values, if there are so many values."""
    return all([0 <= number < many for number in numbers])


def is_row(value, width, many):
    """Whether any value is a row, at a place with so many values before it."""
    return is_row_form(value, width) and are_values(operands_of(value), many)


def is_outs(value, many):
    """Whether any value is a tuple of outs behind so many values."""
    if not isinstance(value, tuple) or not 1 <= len(value) <= MOST_OUTS:
        return False
    return all([is_integer_within(item, 0, many - 1) for item in value])
