"""The values that the rows of programs have for an input."""

from wordsalike.expressions import value_by_number, value_by_parts
from wordsalike.rows import numbers_of, operands_of
from wordsalike.words import to_word


def row_value(row, known, width):
    """The value of a row, for the values of all its operands by their numbers."""
    operation = row[0]
    values = [known[operand] for operand in operands_of(row)]
    numbers = numbers_of(row)
    if operation == "number":
        return numbers[0]
    if operation == "scale":
        factor, number, shift = numbers
        return to_word((factor * values[0] + number) >> shift, width)
    if len(numbers) == 1:
        return value_by_number(operation, values[0], numbers[0], width)
    return value_by_parts(operation, values, width)


def values_for(width, rows, words):
    """A list of all values for an input."""
    known = list(words)
    for row in rows:
        known.append(row_value(row, known, width))
    return known


def result_for(width, program, words):
    """The tuple of the values of the outs for an input."""
    rows, outs = program
    known = values_for(width, rows, words)
    return tuple([known[out] for out in outs])
