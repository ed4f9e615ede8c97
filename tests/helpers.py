"""What several tests use: values of all kinds, and expressions at the limits."""

import random


class Other:
    """A thing of a class that the package does not know."""


def nested(value, depth):
    """The value within so many tuples."""
    for _ in range(depth):
        value = (value,)
    return value


def odd_values():
    """Values of all kinds that are integers, texts and tuples of no use."""
    return [
        None, True, False, -1, 2 ** 64, 10 ** 399, -(10 ** 399), "", "a", "0", "name", "a\nb", "x" * 4000,
        (), [], {}, (None,), [0], {"a": 0}, (0, 1), ("name",), ["name", 0], nested(0, 80), nested((), 85),
        {"name": [{"b": (1, 2)}]}, (["name"], 0), ({}, 1), ((), ()), (True, False), (0,) * 12000,
    ]


def changed_values(value):
    """Values that come from a tuple if one part of it is changed, left out, doubled or put within a list."""
    found = [list(value), (value,), (*value, 0), (*value, value), value[:-1], (0, *value), {"a": value}]
    for at, part in enumerate(value):
        others = [None, True, False, "", "x", [part], (part,), ()]
        if isinstance(part, int):
            others.extend([part + 1, part - 1, -part - 1, part + 2 ** 64, str(part)])
        if isinstance(part, str):
            others.extend([part + " ", part[:-1], 0])
        if isinstance(part, tuple):
            others.extend(changed_values(part) if part else [(0,)])
        found.extend((*value[:at], other, *value[at + 1:]) for other in others)
        found.append((*value[:at], *value[at + 1:]))
        found.append((*value[:at], part, *value[at:]))
    return [other for other in found if repr(other) != repr(value)]


def chain(depth):
    """An expression with one node at each depth, so with as many nodes."""
    expression = ("name", 0)
    for _ in range(depth - 1):
        expression = ("not", expression)
    return expression


def bush(nodes):
    """A shallow expression with so many nodes."""
    if nodes == 1:
        return ("name", 1)
    if nodes == 2:
        return ("neg", ("name", 1))
    first = (nodes - 1) // 2
    return ("add", bush(first), bush(nodes - 1 - first))


def random_expression(rng, size):
    """An expression with about so many nodes."""
    if size <= 1:
        if rng.random() < 0.5:
            return ("name", rng.randrange(4))
        return ("number", rng.choice((0, 1, 2, 255, 2 ** 63, 2 ** 64 - 1, rng.randrange(2 ** 64))))
    kind = rng.random()
    if kind < 0.2:
        return (rng.choice(("not", "neg")), random_expression(rng, size - 1))
    if kind < 0.35:
        return (rng.choice(("left", "right", "signed")), random_expression(rng, size - 1), rng.randrange(64))
    if kind < 0.5:
        divisor = rng.choice((1, 2, 3, 7, 10, 2 ** 32, 2 ** 64 - 1))
        return (rng.choice(("quo", "rem")), random_expression(rng, size - 1), divisor)
    if kind < 0.65:
        sizes = [max(1, (size - 1) // 3)] * 3
        return ("pick", *[random_expression(rng, part) for part in sizes])
    operation = rng.choice(("add", "sub", "mul", "and", "or", "xor", "less", "same"))
    first = rng.randrange(1, size) if size > 1 else 1
    return (operation, random_expression(rng, first), random_expression(rng, size - 1 - first))


def narrowest_text(width, words):
    """The narrowest mask of some words, by the words of [54], as a text."""
    signs = []
    for place in range(width - 1, -1, -1):
        bits = {word // 2 ** place % 2 for word in words}
        signs.append("?" if len(bits) == 2 else str(min(bits)))
    return "".join(signs)


def some_random(seed):
    """A random source that is the same in each run."""
    return random.Random(seed)
