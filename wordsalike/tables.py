"""Mixes that are plain, straight or bitwise, told by the numbers that make them up."""

from wordsalike.mixes import mix_form
from wordsalike.mixforms import PATTERNS, bit_tables, contains_name, number_at
from wordsalike.words import NAMES, to_word


def _is_row_of(row, numbers, bits):
    """Whether a row has these numbers, modulo 2 to the power of the bits."""
    return all([number == to_word(other, bits) for number, other in zip(row, numbers)])


def _are_rows_of(rows, numbers, width):
    """Whether each row has these numbers, as far as they count at its bit."""
    return all([_is_row_of(row, numbers, width - bit) for bit, row in enumerate(rows)])


def plain_table(expression, width):
    """The tuple of the words of all patterns, None if the mix is not plain."""
    first, rows = mix_form(expression, width)
    if not _are_rows_of(rows, rows[0], width):
        return None
    # At the extreme inputs 2 ** width - 1, which is -1, times the number of the pattern is added.
    return tuple([to_word(number_at(rows[0], pattern) - first, width) for pattern in range(PATTERNS)])


def set_numbers(expression, width):
    """The tuple of the numbers of all ands of names, None if the mix is not plain."""
    table = plain_table(expression, width)
    if table is None:
        return None
    # The word of a pattern is the sum of the numbers of the patterns within it.
    numbers = list(table)
    for name in range(NAMES):
        for pattern in range(PATTERNS):
            if contains_name(pattern, name):
                numbers[pattern] = to_word(numbers[pattern] - numbers[pattern - (1 << name)], width)
    return tuple(numbers)


def _and_of_names(pattern):
    """The and of the names that a pattern other than 0 contains."""
    names = [name for name in range(NAMES) if contains_name(pattern, name)]
    expression = ("name", names[0])
    for name in names[1:]:
        expression = ("and", expression, ("name", name))
    return expression


def mix_of_sets(numbers, width):
    """An expression that is a plain mix with these numbers of the ands of names."""
    expression = ("number", to_word(-numbers[0], width))
    for pattern in range(1, PATTERNS):
        factor = to_word(numbers[pattern], width)
        if factor != 0:
            expression = ("add", expression, ("mul", ("number", factor), _and_of_names(pattern)))
    return expression


def straight_numbers(expression, width):
    """The factors of the four names and the number behind them, None if there are none."""
    first, rows = mix_form(expression, width)
    factors = [number_at(rows[0], 1 << name) for name in range(NAMES)]
    sums = []
    for pattern in range(1, PATTERNS):
        sums.append(sum([factors[name] for name in range(NAMES) if contains_name(pattern, name)]))
    if not _are_rows_of(rows, sums, width):
        return None
    return (*factors, first)


def bitwise_rows(expression, width):
    """A tuple with the table of each bit, None if the mix is not bitwise."""
    return bit_tables(mix_form(expression, width), width)
