"""The rows of programs."""

from wordsalike.words import greatest_word, is_integer_within

# The values before the first row: the words of an input.
INPUTS = 4
# A program has at most so many outs.
MOST_OUTS = 4

# Each operation, with the number of its operands.
OPERAND_COUNTS = {
    "number": 0,
    "not": 1,
    "neg": 1,
    "left": 1,
    "right": 1,
    "signed": 1,
    "quo": 1,
    "rem": 1,
    "scale": 1,
    "add": 2,
    "sub": 2,
    "mul": 2,
    "and": 2,
    "or": 2,
    "xor": 2,
    "less": 2,
    "same": 2,
    "pick": 3,
}


def row_bounds(operation, width):
    """A tuple with the bounds of each number that stands behind the operands."""
    greatest = greatest_word(width)
    if operation == "number":
        return ((0, greatest),)
    if operation in ("left", "right", "signed"):
        return ((0, width - 1),)
    if operation in ("quo", "rem"):
        return ((1, greatest),)
    if operation == "scale":
        return ((0, greatest), (0, greatest), (0, 2 * width))
    return ()


def is_row(value, width, many):
    """Whether any value is a row, at a place with so many values before it."""
    if not isinstance(value, tuple) or len(value) == 0:
        return False
    operation = value[0]
    # A list or a dict must not be looked up: it cannot be a key.
    if not isinstance(operation, str) or operation not in OPERAND_COUNTS:
        return False
    bounds = [(0, many - 1)] * OPERAND_COUNTS[operation]
    bounds.extend(row_bounds(operation, width))
    if len(value) != 1 + len(bounds):
        return False
    return all([is_integer_within(item, low, high) for item, (low, high) in zip(value[1:], bounds)])


def is_outs(value, many):
    """Whether any value is a tuple of outs behind so many values."""
    if not isinstance(value, tuple) or not 1 <= len(value) <= MOST_OUTS:
        return False
    return all([is_integer_within(item, 0, many - 1) for item in value])
