"""Programs: rows that reckon with the words of an input, and outs."""

from wordsalike.bounds import ROWS
from wordsalike.classes import Classes, class_ranks, folded
from wordsalike.errors import BadInput, BadProgram, BadWidth, TooLarge, UnequalWidths, UnlikePrograms
from wordsalike.expressions import parts_of
from wordsalike.passes import short_program
from wordsalike.rows import INPUTS, MOST_OUTS, is_row, operands_of, with_operands
from wordsalike.running import result_for, values_for
from wordsalike.words import is_input, is_integer, is_integer_within, is_width, to_word


def program_fault(width, value):
    """None if any value is a program of this width, otherwise a pair of an index and a reason."""
    if not isinstance(value, tuple) or len(value) != 2 or not all([isinstance(part, tuple) for part in value]):
        return (None, "program")
    rows, outs = value
    if len(rows) > ROWS:
        return (None, "rows")
    for index, row in enumerate(rows):
        if not is_row(row, width, INPUTS + index):
            return (index, "row")
    if not 1 <= len(outs) <= MOST_OUTS:
        return (None, "outs")
    for index, out in enumerate(outs):
        if not is_integer_within(out, 0, INPUTS + len(rows) - 1):
            return (index, "out")
    return None


def run_program(width, program, words):
    """The result of a program for an input."""
    return result_for(width, program, words)


def all_values(width, program, words):
    """The tuple of all values of a program for an input."""
    return tuple(values_for(width, program[0], words))


def class_numbers(program, other):
    """A pair of tuples: the number of the class of each value of two programs."""
    classes = Classes()
    pair = [classes.classes_of(rows) for rows, _ in (program, other)]
    ranks = class_ranks(classes.members, list(range(INPUTS, len(classes.members))))
    return tuple([tuple([ranks[at] for at in found]) for found in pair])


def _are_labels(value, many):
    """Whether any value is a tuple of so many integers."""
    return isinstance(value, tuple) and len(value) == many and all([is_integer(label) for label in value])


def check_classes(program, other, value):
    """Whether any value is a pair of tuples of integers that tell the classes apart."""
    numbers = class_numbers(program, other)
    if not isinstance(value, tuple) or len(value) != 2:
        return False
    if not all([_are_labels(part, len(told)) for part, told in zip(value, numbers)]):
        return False
    pairs = list(zip([*numbers[0], *numbers[1]], [*value[0], *value[1]]))
    label_of = {number: label for number, label in pairs}
    number_of = {label: number for number, label in pairs}
    return all([label_of[number] == label and number_of[label] == number for number, label in pairs])


def folded_program(program):
    """The program with one row for each class of used values."""
    rows, outs = program
    classes = Classes()
    found = classes.classes_of(rows)
    return folded(classes.members, [found[out] for out in outs])


def _class_by_number(expression, part, classes, width):
    """The class of an expression with an amount or a divisor over a part of which the class is given."""
    operation, _, number = expression
    if operation in ("left", "right") and number >= width:
        return classes.class_of(("number", 0))
    if operation == "signed":
        number = min(number, width - 1)
    if operation in ("quo", "rem") and number >> width > 0:
        return part if operation == "rem" else classes.class_of(("number", 0))
    return classes.class_of((operation, part, number))


def _class_of(expression, classes, width):
    """The class of the row for an expression, which is added with those of all its parts."""
    operation = expression[0]
    if operation == "name":
        return expression[1]
    if operation == "number":
        return classes.class_of(("number", to_word(expression[1], width)))
    found = [_class_of(part, classes, width) for part in parts_of(expression)]
    if operation in ("left", "right", "signed", "quo", "rem"):
        return _class_by_number(expression, found[0], classes, width)
    return classes.class_of((operation, *found))


def program_of(width, expression):
    """The folded program with one out that has the value of an expression."""
    classes = Classes()
    program = folded(classes.members, [_class_of(expression, classes, width)])
    if len(program[0]) > ROWS:
        raise TooLarge(ROWS)
    return program


def _inputs_within(values):
    """A list of the inputs among some values."""
    return [value for value in values if value < INPUTS]


def _behind(values, outs, many):
    """A tuple of values of a program that comes behind so many rows with these outs."""
    return tuple([outs[value] if value < INPUTS else value + many for value in values])


def _chained(one, other):
    """The rows and outs of one program and then the other one; raises UnlikePrograms and TooLarge."""
    rows, outs = one
    used = [*_inputs_within(other[1])]
    for row in other[0]:
        used.extend(_inputs_within(operands_of(row)))
    if any([value >= len(outs) for value in used]):
        raise UnlikePrograms()
    if len(rows) + len(other[0]) > ROWS:
        raise TooLarge(ROWS)
    more = [with_operands(row, _behind(operands_of(row), outs, len(rows))) for row in other[0]]
    return ((*rows, *more), _behind(other[1], outs, len(rows)))


def _line_of(items):
    """Some items with a space between two."""
    return " ".join([str(item) for item in items])


class Program:
    """A program and its width."""

    def __init__(self, width, value):
        if not is_width(width):
            raise BadWidth(width)
        fault = program_fault(width, value)
        if fault is not None:
            raise BadProgram(fault)
        self._width = width
        self._program = value

    @property
    def width(self):
        """The width of the words."""
        return self._width

    @property
    def rows(self):
        """The tuple of the rows."""
        return self._program[0]

    @property
    def last(self):
        """The tuple of the outs."""
        return self._program[1]

    def __call__(self, words):
        if not is_input(words, self._width):
            raise BadInput()
        return run_program(self._width, self._program, words)

    def __rshift__(self, other):
        if self._width != other._width:
            raise UnequalWidths()
        return Program(self._width, _chained(self._program, other._program))

    def __contains__(self, value):
        return any([row[0] == value for row in self._program[0]])

    def shortened(self):
        """The Program of the short program."""
        return Program(self._width, short_program(self._width, self._program))

    def __len__(self):
        return len(self._program[0])

    def __eq__(self, other):
        return isinstance(other, Program) and self._width == other._width and self._program == other._program

    def _lines(self):
        """A list of the lines of the text: one for each row, and the outs."""
        lines = [f"{value} = {_line_of(row)}" for value, row in enumerate(self._program[0], start=INPUTS)]
        return [*lines, _line_of(("out", *self._program[1]))]

    def __str__(self):
        return "\n".join(self._lines())
