"""Expressions: tuples that tell how a word is reckoned from the words of four names."""

from wordsalike.bounds import DEPTH, NODES
from wordsalike.errors import TooDeep, TooLarge
from wordsalike.words import is_integer_within, signed_value, to_word

# Each operation, with the number of its parts, which stand behind it.
PART_COUNTS = {
    "name": 0,
    "number": 0,
    "not": 1,
    "neg": 1,
    "add": 2,
    "sub": 2,
    "mul": 2,
    "and": 2,
    "or": 2,
    "xor": 2,
    "left": 1,
    "right": 1,
    "signed": 1,
    "quo": 1,
    "rem": 1,
    "less": 2,
    "same": 2,
    "pick": 3,
}

# The operations with a number as their last item, with its bounds.
NUMBER_BOUNDS = {
    "name": (0, 3),
    "number": (0, 2 ** 64 - 1),
    "left": (0, 63),
    "right": (0, 63),
    "signed": (0, 63),
    "quo": (1, 2 ** 64 - 1),
    "rem": (1, 2 ** 64 - 1),
}


def parts_of(expression):
    """The parts of an expression, from left to right."""
    return expression[1:1 + PART_COUNTS[expression[0]]]


def _is_node(value):
    """Whether any value is a tuple with an operation and as many further items as it takes."""
    if not isinstance(value, tuple) or len(value) == 0:
        return False
    operation = value[0]
    # A list or a dict must not be looked up: it cannot be a key.
    if not isinstance(operation, str) or operation not in PART_COUNTS:
        return False
    return len(value) == 1 + PART_COUNTS[operation] + int(operation in NUMBER_BOUNDS)


def _has_good_number(node):
    """Whether the number of a node is within its bounds, if the node has one."""
    if node[0] not in NUMBER_BOUNDS:
        return True
    low, high = NUMBER_BOUNDS[node[0]]
    return is_integer_within(node[-1], low, high)


def _first_fault(value, path, depth):
    """The first fault of a value or of a part of it, None if there is none."""
    if depth > DEPTH:
        return (path, "deep")
    if not _is_node(value):
        return (path, "node")
    if not _has_good_number(value):
        return ((*path, len(value) - 1), "number")
    for place, part in enumerate(parts_of(value), start=1):
        fault = _first_fault(part, (*path, place), depth + 1)
        if fault is not None:
            return fault
    return None


def expression_fault(value):
    """None if any value is an expression, otherwise the path to a fault and its reason."""
    fault = _first_fault(value, (), 1)
    if fault is None and node_count(value) > NODES:
        return ((), "nodes")
    return fault


def value_by_number(operation, word, number, width):
    """The value of an operation with one part and a number."""
    if operation == "left":
        return to_word(word << number, width)
    if operation == "right":
        return word >> number
    if operation == "signed":
        return to_word(signed_value(word, width) >> number, width)
    if operation == "quo":
        return word // number
    return word % number


def _number_of_two(operation, x, y):
    """The integer that an operation makes of two words, before it wraps round."""
    if operation == "add":
        return x + y
    if operation == "sub":
        return x - y
    if operation == "mul":
        return x * y
    if operation == "and":
        return x & y
    if operation == "or":
        return x | y
    if operation == "xor":
        return x ^ y
    if operation == "less":
        return int(x < y)
    return int(x == y)


def value_by_parts(operation, values, width):
    """The value of an operation whose parts have these values and that has no number."""
    if operation == "not":
        return to_word(-1 - values[0], width)
    if operation == "neg":
        return to_word(-values[0], width)
    if operation == "pick":
        return values[1] if values[0] != 0 else values[2]
    return to_word(_number_of_two(operation, values[0], values[1]), width)


def value_at(expression, width, words):
    """The value of an expression at a width, for an input of four words."""
    operation = expression[0]
    if operation == "name":
        return words[expression[1]]
    if operation == "number":
        return to_word(expression[1], width)
    values = [value_at(part, width, words) for part in parts_of(expression)]
    if operation in NUMBER_BOUNDS:
        return value_by_number(operation, values[0], expression[2], width)
    return value_by_parts(operation, values, width)


def _names_within(expression):
    """A list of the names in an expression, each as often as it stands."""
    if expression[0] == "name":
        return [expression[1]]
    found = []
    for part in parts_of(expression):
        found.extend(_names_within(part))
    return found


def names_used(expression):
    """The ascending tuple of the names that occur."""
    return tuple(sorted(set(_names_within(expression))))


def node_count(expression):
    """The number of nodes, each counted as often as it stands."""
    return 1 + sum([node_count(part) for part in parts_of(expression)])


def _depth_of(expression):
    """How deep the nodes are nested."""
    return 1 + max([_depth_of(part) for part in parts_of(expression)], default=0)


def _replaced(expression, name, other):
    """The expression with other in the place of a name, of any size and depth."""
    if expression == ("name", name):
        return other
    parts = [_replaced(part, name, other) for part in parts_of(expression)]
    numbers = expression[1 + len(parts):]
    return (expression[0], *parts, *numbers)


def with_expression(expression, name, other):
    """The expression in which other stands in the place of each occurrence of a name."""
    occurrences = _names_within(expression).count(name)
    # The size is reckoned first, so that nothing great is built in vain.
    if node_count(expression) + occurrences * (node_count(other) - 1) > NODES:
        raise TooLarge(NODES)
    replaced = _replaced(expression, name, other)
    if _depth_of(replaced) > DEPTH:
        raise TooDeep(DEPTH)
    return replaced
