"""Expressions and programs as texts."""

from wordsalike.bounds import DEPTH, NODES, ROWS
from wordsalike.errors import ParseError, TooDeep, TooLarge
from wordsalike.expressions import NUMBER_BOUNDS
from wordsalike.reading import is_decimal, read_expression
from wordsalike.rows import INPUTS, is_outs, is_row
from wordsalike.signs import COMPARING_GROUP, LETTERS, PICK_GROUP, PREFIX_GROUP, PREFIXES, SIGNS
from wordsalike.words import is_width


def _prefix_of(operation):
    """The sign that stands in front of the part of an operation, empty if there is none."""
    for sign in PREFIXES:
        if PREFIXES[sign] == operation:
            return sign
    return ""


def _sign_of(operation):
    """The sign that stands behind the first part of an operation, empty if there is none."""
    for sign in SIGNS:
        if SIGNS[sign][0] == operation:
            return sign
    return ""


def _group_of(expression):
    """The group of an expression; nothing binds more than ~ and -, not even a name or a number."""
    sign = _sign_of(expression[0])
    return PREFIX_GROUP if sign == "" else SIGNS[sign][1]


def _part_text(part, group):
    """The text of a part, within parentheses if it binds less than a group."""
    if _group_of(part) > group:
        return f"({format_expression(part)})"
    return format_expression(part)


def _operator_text(expression):
    """The text of an expression with a sign behind its first part."""
    sign = _sign_of(expression[0])
    group = SIGNS[sign][1]
    if group == PICK_GROUP:
        first = _part_text(expression[1], group - 1)
        return f"{first} ? {format_expression(expression[2])} : {format_expression(expression[3])}"
    # Comparisons are not read from left to right: none is a part of another one.
    first = _part_text(expression[1], group - 1 if group == COMPARING_GROUP else group)
    if expression[0] in NUMBER_BOUNDS:
        return f"{first} {sign} {expression[2]}"
    return f"{first} {sign} {_part_text(expression[2], group - 1)}"


def format_expression(expression):
    """The text of an expression."""
    if expression[0] == "name":
        return LETTERS[expression[1]]
    if expression[0] == "number":
        return str(expression[1])
    prefix = _prefix_of(expression[0])
    if prefix != "":
        return prefix + _part_text(expression[1], PREFIX_GROUP)
    return _operator_text(expression)


def parse_expression(value):
    """The expression whose text any value is."""
    if not isinstance(value, str):
        raise ParseError(None)
    expression, nodes, depth = read_expression(value)
    if nodes > NODES:
        raise TooLarge(NODES)
    if depth > DEPTH:
        raise TooDeep(DEPTH)
    return expression


def _line_of(items):
    """The line with these items."""
    return " ".join([str(item) for item in items]) + "\n"


def format_program(width, program):
    """The text of a program of a width."""
    rows, outs = program
    lines = [_line_of(("width", width))]
    lines.extend([_line_of(row) for row in rows])
    lines.append(_line_of(("out", *outs)))
    return "".join(lines)


def _items_of(line):
    """The tuple of the items of a line: a word, then integers. None if it has another form."""
    words = line.split(" ")
    if not all([is_decimal(word) for word in words[1:]]):
        return None
    numbers = [int(word) for word in words[1:]]
    return (words[0], *numbers)


def _width_of(lines):
    """The width that the first of some lines tells."""
    items = _items_of(lines[0]) if len(lines) > 0 else None
    if items is None or len(items) != 2 or items[0] != "width" or not is_width(items[1]):
        raise ParseError(0)
    return items[1]


def parse_program(value):
    """The tuple (width, program) whose text any value is."""
    if not isinstance(value, str):
        raise ParseError(None)
    pieces = value.split("\n")
    lines = pieces[:-1]
    width = _width_of(lines)
    rows = []
    for at, line in enumerate(lines[1:], start=1):
        items = _items_of(line)
        many = INPUTS + len(rows)
        if items is not None and items[0] == "out" and is_outs(items[1:], many):
            if at + 1 < len(lines) or pieces[-1] != "":
                raise ParseError(at + 1)
            return (width, (tuple(rows), items[1:]))
        if len(rows) == ROWS or not is_row(items, width, many):
            raise ParseError(at)
        rows.append(items)
    raise ParseError(len(lines))
