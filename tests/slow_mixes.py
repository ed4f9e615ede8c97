"""Mixes by the words of the document: all inputs one by one."""

import itertools

from wordsalike.expressions import names_used, parts_of, value_at

ALL_OPERATIONS = ("name", "number", "not", "neg", "add", "sub", "mul", "and", "or", "xor", "left", "right", "signed",
                  "quo", "rem", "less", "same", "pick")


def inputs_over(names, width):
    """All inputs in which the other names have the word 0, in ascending order."""
    words = [range(2 ** width) if name in names else (0,) for name in range(4)]
    return list(itertools.product(*words))


def all_values(expression, inputs, width):
    return [value_at(expression, width, words) for words in inputs]


def pattern_at(words, bit):
    return sum((word >> bit & 1) * 2 ** name for name, word in enumerate(words))


def is_bitwise(values, inputs, width):
    """Whether each bit of the values depends on the same bits of the names alone."""
    for bit in range(width):
        seen = {}
        for words, value in zip(inputs, values):
            if seen.setdefault(pattern_at(words, bit), value >> bit & 1) != value >> bit & 1:
                return False
    return True


def _look(node, path, width, inputs, faults):
    """Whether a node is a mix, by the words of [38]; adds the paths of those that make others none."""
    parts = [_look(part, (*path, at), width, inputs, faults) for at, part in enumerate(parts_of(node), start=1)]
    if not all(parts):
        return False
    values = [all_values(part, inputs, width) for part in parts_of(node)]
    if node[0] == "mul":
        found = any(len(set(value)) == 1 for value in values)
    elif node[0] in ("and", "or", "xor"):
        found = all(is_bitwise(value, inputs, width) for value in values)
    else:
        found = node[0] in ("name", "number", "not", "neg", "add", "sub", "left")
    if not found:
        faults.append(path)
    return found


def slow_fault(expression, width):
    """The path of NotMix, None for a mix."""
    faults = []
    _look(expression, (), width, inputs_over(names_used(expression), width), faults)
    # Paths in ascending order are in the order in which nodes are looked at.
    return min(faults, default=None)


def slow_form(expression, width):
    """The form by the values at the input of zeros and the one-bit inputs."""
    first = value_at(expression, width, (0, 0, 0, 0))
    rows = []
    for bit in range(width):
        row = []
        for pattern in range(1, 16):
            words = one_bit_input(bit, pattern)
            row.append((value_at(expression, width, words) - first) // 2 ** bit % 2 ** (width - bit))
        rows.append(tuple(row))
    return (first, tuple(rows))


def one_bit_input(bit, pattern):
    return tuple(2 ** bit * (pattern >> name & 1) for name in range(4))


def extreme_input(width, pattern):
    return tuple((2 ** width - 1) * (pattern >> name & 1) for name in range(4))


def random_bitwise(rng, size, names=(0, 1, 2, 3)):
    """A bitwise expression with about so many nodes."""
    if size <= 1:
        return ("name", rng.choice(names)) if rng.random() < 0.75 else ("number", rng.randrange(2 ** 64))
    if rng.random() < 0.3:
        return ("not", random_bitwise(rng, size - 1, names))
    first = rng.randrange(1, size)
    operation = rng.choice(("and", "or", "xor"))
    return (operation, random_bitwise(rng, first, names), random_bitwise(rng, size - first, names))


def random_mix(rng, size, names=(0, 1, 2, 3)):
    """A mix of all widths with about so many nodes."""
    kind = rng.random()
    if size <= 2 or kind < 0.25:
        return random_bitwise(rng, min(size, 9), names)
    if kind < 0.4:
        return (rng.choice(("neg", "not")), random_mix(rng, size - 1, names))
    if kind < 0.5:
        return ("left", random_mix(rng, size - 1, names), rng.choice((0, 1, 2, 3, 63)))
    if kind < 0.65:
        factor = ("number", rng.choice((0, 1, 2, 3, 5, 8, 2 ** 63, 2 ** 64 - 1, rng.randrange(2 ** 64))))
        parts = [factor, random_mix(rng, size - 2, names)]
        rng.shuffle(parts)
        return ("mul", *parts)
    first = rng.randrange(1, size)
    return (rng.choice(("add", "sub")), random_mix(rng, first, names), random_mix(rng, size - first, names))


def node_over(operation, parts, number=1):
    """An expression with this operation and as many of the parts as it takes."""
    if operation in ("not", "neg"):
        return (operation, parts[0])
    if operation in ("left", "right", "signed", "quo", "rem"):
        return (operation, parts[0], number)
    if operation == "pick":
        return (operation, *parts[:3])
    return (operation, *parts[:2])
