"""Steps by the words of [75]."""

import functools

from tests.slow_programs import COUNTS, EVEN, parts_of_row, put_in, slow_rules, slow_working, trees_of
from wordsalike.errors import NotMix
from wordsalike.mixes import mix_form
from wordsalike.reduced import reduced_form

POLYNOMIAL = ("name", "number", "not", "neg", "add", "sub", "mul", "left")


def row_of(rows, value):
    return rows[value - 4] if value > 3 else (None,)


def is_number(rows, value, number):
    return row_of(rows, value) == ("number", number)


def expression_of(rows, value, leaves):
    """The expression that is read from a value, None if it does not lead down to leaves and numbers."""
    if value in leaves:
        return ("name", leaves.index(value))
    if value < 4:
        return None
    operation, operands, numbers = parts_of_row(rows[value - 4])
    parts = [expression_of(rows, operand, leaves) for operand in operands]
    return None if None in parts else (operation, *parts, *numbers)


def polynomial_of(expression, width):
    """The numbers of a polynomial expression, modulo 2 to the power of the width; None for another one."""
    operation = expression[0]
    if operation == "name":
        return [0, 1]
    if operation == "number":
        return [expression[1]]
    if operation not in POLYNOMIAL:
        return None
    parts = [polynomial_of(part, width) for part in expression[1:] if isinstance(part, tuple)]
    if None in parts:
        return None
    x, y = parts[0], parts[-1]
    size = len(x) + len(y)
    found = [0] * size
    for at in range(size):
        one, other = x[at] if at < len(x) else 0, y[at] if at < len(y) else 0
        if operation in ("not", "neg"):
            found[at] = -one - (operation == "not" and at == 0)
        elif operation == "left":
            found[at] = one * 2 ** expression[2]
        elif operation in ("add", "sub"):
            found[at] = one + other if operation == "add" else one - other
        else:
            found[at] = sum(x[k] * y[at - k] for k in range(len(x)) if 0 <= at - k < len(y))
    return [number % 2 ** width for number in found]


@functools.lru_cache(None)
def _mix_form(width, rows, value, leaves):
    """The form of a value as a mix of the leaves, None if it is none."""
    expression = expression_of(rows, value, leaves)
    if expression is None:
        return None
    try:
        return mix_form(expression, width)
    except (NotMix, KeyError):
        # A row scale is no expression.
        return None


@functools.lru_cache(None)
def _polynomial_form(width, rows, value, leaf):
    """The reduced form of a value as a polynomial in the leaf, None if it is none."""
    expression = expression_of(rows, value, (leaf,))
    numbers = None if expression is None else polynomial_of(expression, width)
    return None if numbers is None else reduced_form(numbers, width)


def _is_same_form(one, other):
    return one is not None and one == other


_trees_of = functools.lru_cache(None)(trees_of)


def _same(rows, i, j):
    one, other = row_of(rows, i), row_of(rows, j)
    if i == j or (one == other and one != (None,)):
        return True
    return one[0] in EVEN and (one[0], one[2], one[1]) == other


def _ruled(width, rows, i, j):
    trees = _trees_of(rows)
    if i < 4:
        return False
    for target in slow_rules(width, rows, i):
        if isinstance(target, tuple) and row_of(rows, j) == target:
            return True
        if isinstance(target, int) and trees[target] == trees[j]:
            return True
    return False


def _shifted(width, rows, i, j):
    one, other = row_of(rows, i), row_of(rows, j)
    numbers = [4 + k for k, row in enumerate(rows) if row[0] == "number"]
    for s in range(width if one[0] in ("mul", "quo", "rem") else 0):
        for x in one[1:3]:
            for k in numbers:
                if is_number(rows, k, 2 ** s) and one in (("mul", x, k), ("mul", k, x)) and other == ("left", x, s):
                    return True
                if is_number(rows, k, 2 ** s - 1) and one == ("rem", x, 2 ** s):
                    if other in (("and", x, k), ("and", k, x)):
                        return True
            if one == ("quo", x, 2 ** s) and other == ("right", x, s):
                return True
    return False


def _divisor(row):
    return row[2] if row[0] == "quo" else 2 ** row[2] if row[0] == "right" else None


def _quotient(width, rows, i, j):
    one, other = row_of(rows, i), row_of(rows, j)
    k = _divisor(one)
    inner = row_of(rows, one[1]) if k else (None,)
    if k is None or _divisor(inner) is None:
        return False
    product, x = k * _divisor(inner), inner[1]
    if product < 2 ** width:
        return other == ("quo", x, product) or (other[0] == "right" and other[1] == x and 2 ** other[2] == product)
    return other == ("number", 0)


def _scaled(width, rows, i, j):
    one, other = row_of(rows, i), row_of(rows, j)
    if one[0] != "quo" or other[0] != "scale" or one[1] != other[1]:
        return False
    d, (m, n, s) = one[2], other[2:]
    if n not in (0, m):
        return False
    words = range(2 ** width)
    if width > 8:
        # Some words: the ends, and those around the multiples of the divisor.
        top = 2 ** width - 1
        words = [0, 1, 2, top - 1, top, d - 1, d, top // d * d, top // d * d - 1, top // d // 2 * d - 1, top // d // 2 * d]
        words = [x for x in words if 0 <= x <= top]
    return all((m * x + n) // 2 ** s % 2 ** width == x // d for x in words)


def slow_reason(width, rows, i, j, why):
    """Whether a reason of the right form, with leaves that are values, holds."""
    if why[0] == "same":
        return _same(rows, i, j)
    if why[0] == "mix":
        return _is_same_form(_mix_form(width, rows, i, why[1]), _mix_form(width, rows, j, why[1]))
    if why[0] == "polynomial":
        return _is_same_form(_polynomial_form(width, rows, i, why[1]), _polynomial_form(width, rows, j, why[1]))
    for one, other in ((i, j), (j, i)):
        if why[0] == "worked":
            found = one > 3 and slow_working(width, rows, one) == row_of(rows, other)
        elif why[0] == "rule":
            found = _ruled(width, rows, one, other)
        else:
            told = {"shift": _shifted, "quotient": _quotient, "scale": _scaled}[why[0]]
            found = told(width, rows, one, other)
        if found:
            return True
    return False


def _is_int(value):
    return type(value) is int


def row_is_told(width, row):
    """Whether any value is a row, whatever integers its operands are."""
    if type(row) is not tuple or not row or type(row[0]) is not str or row[0] not in COUNTS:
        return False
    numbers, top = row[1 + COUNTS[row[0]]:], 2 ** width - 1
    bounds = {"number": [(0, top)], "left": [(0, width - 1)], "right": [(0, width - 1)], "signed": [(0, width - 1)],
              "quo": [(1, top)], "rem": [(1, top)], "scale": [(0, top), (0, top), (0, 2 * width)]}.get(row[0], [])
    if len(row) != 1 + COUNTS[row[0]] + len(bounds) or not all(_is_int(item) for item in row[1:]):
        return False
    return all(low <= number <= high for number, (low, high) in zip(numbers, bounds))


def _why_is_told(why):
    if type(why) is not tuple or not why or type(why[0]) is not str:
        return False
    if why[0] in ("same", "worked", "rule", "shift", "quotient", "scale"):
        return len(why) == 1
    if why[0] == "polynomial":
        return len(why) == 2 and _is_int(why[1])
    if why[0] != "mix" or len(why) != 2 or type(why[1]) is not tuple or not 1 <= len(why[1]) <= 4:
        return False
    return all(_is_int(leaf) for leaf in why[1]) and list(why[1]) == sorted(set(why[1]))


def _step_is_told(width, value):
    if type(value) is not tuple or not value or type(value[0]) is not str:
        return False
    if value[0] == "delete":
        return len(value) == 2 and _is_int(value[1])
    if value[0] == "insert":
        return len(value) == 3 and _is_int(value[1]) and row_is_told(width, value[2])
    return value[0] == "use" and len(value) == 5 and all(_is_int(k) for k in value[1:4]) and _why_is_told(value[4])


def _place_is_there(program, value):
    rows, outs = program
    many, at = len(rows) + 4, value[1]
    if value[0] == "delete":
        return at in range(4, many)
    if value[0] == "insert":
        return at in range(4, many + 1) and all(x in range(at) for x in parts_of_row(value[2])[1])
    leaves = value[4][1] if value[4][0] == "mix" else value[4][1:]
    if not all(leaf in range(many) for leaf in leaves):
        return False
    if at == many:
        return value[2] in range(len(outs)) and value[3] in range(many)
    return at in range(4, many) and value[2] in range(COUNTS[rows[at - 4][0]]) and value[3] in range(at)


def slow_step(width, program, value):
    """The program after a step, or the reason of BadStep."""
    rows, outs = program
    if not _step_is_told(width, value):
        return "step"
    if value[0] == "insert" and len(rows) + 1 > 200:
        return "many"
    if not _place_is_there(program, value):
        return "place"
    at = value[1]
    if value[0] == "insert":
        return put_in(program, at, value[2])
    if value[0] == "delete":
        if at in outs or any(at in parts_of_row(row)[1] for row in rows):
            return "used"
        return taken_out(program, at)
    place, other, why = value[2:]
    stood = outs[place] if at == len(rows) + 4 else rows[at - 4][1 + place]
    if not slow_reason(width, rows, stood, other, why):
        return "why"
    if at == len(rows) + 4:
        return (rows, tuple(other if k == place else out for k, out in enumerate(outs)))
    row = tuple(other if k == place + 1 else item for k, item in enumerate(rows[at - 4]))
    return ((*rows[:at - 4], row, *rows[at - 3:]), outs)


def taken_out(program, at):
    rows, outs = program
    def move(value):
        return value - 1 if value > at else value
    found = []
    for k, row in enumerate(rows):
        if k + 4 != at:
            operation, operands, numbers = parts_of_row(row)
            found.append((operation, *[move(value) for value in operands], *numbers))
    return (tuple(found), tuple(move(out) for out in outs))
