"""Programs by the words of the document: classes as trees, rules one by one in any order."""

import itertools

ORDER = ("number", "not", "neg", "left", "right", "signed", "quo", "rem", "scale", "add", "sub", "mul", "and", "or",
         "xor", "less", "same", "pick")
EVEN = ("add", "mul", "and", "or", "xor", "same")
TWO = ("add", "sub", "mul", "and", "or", "xor", "less", "same")
COUNTS = {"number": 0, **{name: 1 for name in ORDER[1:9]}, **{name: 2 for name in TWO}, "pick": 3}


def parts_of_row(row):
    """(operation, operands, numbers)."""
    many = COUNTS[row[0]]
    return row[0], row[1:1 + many], row[1 + many:]


def slow_row_value(width, row, known):
    """The value of a row by the words of [4] and [68]."""
    operation, operands, numbers = parts_of_row(row)
    values = [known[value] for value in operands]
    power = 2 ** width
    signed = [x - power if x >= power // 2 else x for x in values]
    found = {
        "number": lambda: numbers[0], "not": lambda: power - 1 - values[0], "neg": lambda: -values[0],
        "left": lambda: values[0] * 2 ** numbers[0], "right": lambda: values[0] // 2 ** numbers[0],
        "signed": lambda: signed[0] // 2 ** numbers[0], "quo": lambda: values[0] // numbers[0],
        "rem": lambda: values[0] % numbers[0],
        "scale": lambda: (numbers[0] * values[0] + numbers[1]) // 2 ** numbers[2],
        "add": lambda: values[0] + values[1], "sub": lambda: values[0] - values[1],
        "mul": lambda: values[0] * values[1], "and": lambda: values[0] & values[1],
        "or": lambda: values[0] | values[1], "xor": lambda: values[0] ^ values[1],
        "less": lambda: 1 if values[0] < values[1] else 0, "same": lambda: 1 if values[0] == values[1] else 0,
        "pick": lambda: values[2] if values[0] == 0 else values[1],
    }[operation]()
    return found % power


def slow_values(width, program, words):
    known = list(words)
    for row in program[0]:
        known.append(slow_row_value(width, row, known))
    return tuple(known)


def slow_result(width, program, words):
    known = slow_values(width, program, words)
    return tuple(known[out] for out in program[1])


def all_inputs(width, names=(0, 1, 2, 3)):
    return list(itertools.product(*[range(2 ** width) if name in names else (0,) for name in range(4)]))


def trees_of(rows):
    """The class of each value as a tree that orders the classes."""
    found = [(0, 0, name) for name in range(4)]
    for row in rows:
        operation, operands, numbers = parts_of_row(row)
        parts = [found[value] for value in operands]
        height = 1 + max(part[0] for part in parts) if parts else 0
        parts = sorted(parts) if operation in EVEN else parts
        found.append((height, 1, ORDER.index(operation), numbers, tuple(parts)))
    return found


def slow_class_numbers(program, other):
    pair = [trees_of(part[0]) for part in (program, other)]
    ordered = sorted(set(pair[0] + pair[1]))
    return tuple(tuple(ordered.index(tree) for tree in found) for found in pair)


def used_values(program):
    """The used values, by the words of [72]."""
    rows, outs = program
    used = set(outs)
    for at in range(len(rows) + 3, 3, -1):
        if at in used:
            used |= set(parts_of_row(rows[at - 4])[1])
    return used


def slow_folded(program):
    rows, outs = program
    trees = trees_of(rows)
    used = sorted({trees[value] for value in used_values(program) if value > 3})
    place = {**{(0, 0, name): name for name in range(4)}, **{tree: 4 + at for at, tree in enumerate(used)}}
    found = []
    for tree in used:
        row = rows[trees.index(tree) - 4]
        operation, operands, numbers = parts_of_row(row)
        operands = [place[trees[value]] for value in operands]
        found.append((operation, *(sorted(operands) if operation in EVEN else operands), *numbers))
    return (tuple(found), tuple(place[trees[out]] for out in outs))


def _number(rows, value):
    return rows[value - 4][1] if value > 3 and rows[value - 4][0] == "number" else None


def _rules_of_two(width, rows, row, trees):
    """Rules for both operands in this order."""
    operation, (x, y), _ = parts_of_row(row)
    number, ends = _number(rows, y), 2 ** width - 1
    alike = trees[x] == trees[y]
    return [
        (operation == "add" and number == 0, x), (operation == "sub" and number == 0, x),
        (operation == "mul" and number == 1, x), (operation == "and" and number == ends, x),
        (operation == "or" and number == 0, x), (operation == "xor" and number == 0, x),
        (operation == "and" and alike, x), (operation == "or" and alike, x),
        (operation == "mul" and number == 0, ("number", 0)), (operation == "and" and number == 0, ("number", 0)),
        (operation == "sub" and alike, ("number", 0)), (operation == "xor" and alike, ("number", 0)),
        (operation == "less" and alike, ("number", 0)), (operation == "less" and number == 0, ("number", 0)),
        (operation == "less" and _number(rows, x) == ends, ("number", 0)),
        (operation == "or" and number == ends, ("number", ends)), (operation == "same" and alike, ("number", 1)),
    ]


def _rules_of_one(rows, row):
    operation, (x,), numbers = parts_of_row(row)
    inner = rows[x - 4] if x > 3 else (None, None)
    return [
        (operation in ("left", "right", "signed") and numbers == (0,), x), (operation == "quo" and numbers == (1,), x),
        (operation == "scale" and numbers == (1, 0, 0), x), (operation == "not" and inner[0] == "not", inner[1]),
        (operation == "neg" and inner[0] == "neg", inner[1]), (operation == "rem" and numbers == (1,), ("number", 0)),
    ]


def slow_rules(width, rows, at):
    """What rules lead to from the row with the value at: values, or rows with number."""
    row, trees = rows[at - 4], trees_of(rows[:at - 4])
    operation, operands, _ = parts_of_row(row)
    if not operands:
        return []
    if len(operands) == 1:
        told = _rules_of_one(rows, row)
    elif len(operands) == 2:
        told = _rules_of_two(width, rows, row, trees)
        if operation in EVEN:
            told += _rules_of_two(width, rows, (operation, operands[1], operands[0]), trees)
    else:
        condition, x, y = operands
        number = _number(rows, condition)
        told = [(trees[x] == trees[y], x), (number is not None and number != 0, x), (number == 0, y)]
    return [target for holds, target in told if holds]


def slow_working(width, rows, at):
    """The row with number to which working leads, None if there is none."""
    operands = parts_of_row(rows[at - 4])[1]
    known = {value: _number(rows, value) for value in operands}
    if not operands or None in known.values():
        return None
    return ("number", slow_row_value(width, rows[at - 4], known))


def put_in(program, at, row):
    """The program with a row that gets the value at."""
    rows, outs = program
    def move(value):
        return value + 1 if value >= at else value
    moved = []
    for later in rows[at - 4:]:
        operation, operands, numbers = parts_of_row(later)
        moved.append((operation, *[move(value) for value in operands], *numbers))
    return ((*rows[:at - 4], row, *moved), tuple(move(out) for out in outs))


def replaced(program, at, other):
    """The program with another value in the place of the value at, wherever it is used."""
    rows, outs = program
    found = []
    for row in rows:
        operation, operands, numbers = parts_of_row(row)
        found.append((operation, *[other if value == at else value for value in operands], *numbers))
    return (tuple(found), tuple(other if out == at else out for out in outs))


def slow_short(width, program, rng):
    """Rules and working on used values, in any order, as long as one can be used."""
    program = slow_folded(program)
    while True:
        rows = program[0]
        ways = []
        for at in used_values(program):
            if at > 3:
                worked = slow_working(width, rows, at)
                ways.extend((at, target) for target in slow_rules(width, rows, at) + ([worked] if worked else []))
        if not ways:
            return slow_folded(program)
        at, target = rng.choice(ways)
        if isinstance(target, tuple):
            program = replaced(put_in(program, 4, target), at + 1, 4)
        else:
            program = replaced(program, at, target)
        if rng.random() < 0.5:
            program = slow_folded(program)


def random_row(rng, width, many, operations=ORDER, recent=6):
    """A row behind so many values, whose operands and numbers often fit a rule."""
    top = 2 ** width - 1
    operation = rng.choice(operations)
    low = max(0, many - recent) if rng.random() < 0.7 else 0
    operands = [rng.randrange(low, many) for _ in range(COUNTS[operation])]
    if len(operands) > 1 and rng.random() < 0.2:
        operands[-1] = operands[-2]
    word = rng.choice((0, 0, 1, top, top, 2 ** rng.randrange(width), rng.randrange(top + 1)))
    numbers = {
        "number": (word,), "quo": (max(1, word),), "rem": (max(1, word),),
        "scale": (rng.choice((1, word)), rng.choice((0, word)), rng.choice((0, rng.randrange(2 * width + 1)))),
    }.get(operation, ())
    if operation in ("left", "right", "signed"):
        numbers = (rng.choice((0, rng.randrange(width))),)
    return (operation, *operands, *numbers)


def random_program(rng, width, count, operations=ORDER, outs=None):
    rows = []
    for at in range(count):
        rows.append(random_row(rng, width, 4 + at, operations))
    low = max(0, count - 2)
    many = rng.randrange(1, 5) if outs is None else outs
    return (tuple(rows), tuple(rng.randrange(low, 4 + count) for _ in range(many)))


def shuffled_program(rng, program):
    """A program with the same outs by class: rows twice, in another order, with operands exchanged."""
    rows, outs = program
    place, found = {at: [at] for at in range(4)}, []
    waiting = [4 + at for at in range(len(rows)) for _ in range(rng.choice((1, 1, 2)))]
    while waiting:
        ready = [at for at in waiting if all(value in place for value in parts_of_row(rows[at - 4])[1])]
        at = rng.choice(ready)
        waiting.remove(at)
        operation, operands, numbers = parts_of_row(rows[at - 4])
        operands = [rng.choice(place[value]) for value in operands]
        if operation in EVEN and rng.random() < 0.5:
            operands = operands[::-1]
        found.append((operation, *operands, *numbers))
        place.setdefault(at, []).append(3 + len(found))
    return (tuple(found), tuple(rng.choice(place[out]) for out in outs))
