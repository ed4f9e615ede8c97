"""The forms of mixes, and how they come from the forms of their parts.

A form is (first, rows): the value for the input of zeros, and a row for each bit. The row of a bit
has a number for each pattern from 1 on, modulo 2 to the power of the bits from this one up: so
much is added, times 2 ** bit, if the names of the pattern have 1 as this bit.
"""

from wordsalike.words import NAMES, greatest_word, to_word

PATTERNS = 16


def number_at(row, pattern):
    """The number of a pattern in a row; that of the pattern 0 is 0."""
    return 0 if pattern == 0 else row[pattern - 1]


def contains_name(pattern, name):
    """Whether a pattern contains a name."""
    return pattern >> name & 1 == 1


def pattern_of(words, bit):
    """The pattern of the names whose words have 1 as a bit."""
    return sum([(word >> bit & 1) << name for name, word in enumerate(words)])


def pattern_input(pattern, word):
    """The input with this word for each name that a pattern contains, and 0 for the others."""
    return tuple([word if contains_name(pattern, name) else 0 for name in range(NAMES)])


def mix_value(form, width, words):
    """The value for an input; names without a word have the word 0."""
    first, rows = form
    numbers = [number_at(rows[bit], pattern_of(words, bit)) << bit for bit in range(width)]
    return to_word(first + sum(numbers), width)


def number_form(number, width):
    """The form of an integer."""
    row = tuple([0 for _ in range(1, PATTERNS)])
    return (to_word(number, width), tuple([row for _ in range(width)]))


def name_form(name, width):
    """The form of a name."""
    row = tuple([int(contains_name(pattern, name)) for pattern in range(1, PATTERNS)])
    return (0, tuple([row for _ in range(width)]))


def _sum_row(one, other, factor, bits):
    """The row of one and a factor times another, modulo 2 to the power of the bits."""
    greatest = greatest_word(bits)
    return tuple([(x + factor * y) & greatest for x, y in zip(one, other)])


def sum_form(one, other, factor, width):
    """The form of one and a factor times another."""
    rows = [_sum_row(one[1][bit], other[1][bit], factor, width - bit) for bit in range(width)]
    return (to_word(one[0] + factor * other[0], width), tuple(rows))


def scaled_form(form, factor, width):
    """The form of a factor times a mix."""
    return sum_form(number_form(0, width), form, factor, width)


def is_constant(form):
    """Whether the value is the same for all inputs."""
    return not any([any([number != 0 for number in row]) for row in form[1]])


def is_zero(form):
    """Whether the value is 0 for all inputs."""
    return form[0] == 0 and is_constant(form)


def name_turns(row, name):
    """A list of (pattern, number) for the patterns without a name.

    The number tells how much more the number in the row is for the pattern with the name.
    """
    others = [pattern for pattern in range(PATTERNS) if not contains_name(pattern, name)]
    return [(other, number_at(row, other | 1 << name) - number_at(row, other)) for other in others]


def matters(form, name):
    """Whether the value depends on a name."""
    return any([any([turn != 0 for _, turn in name_turns(row, name)]) for row in form[1]])


def _row_table(row, first_bit, bits):
    """The number whose bit T is the bit of the value for the pattern T, None if there is none."""
    # How much is added at this bit if the bit changes.
    change = greatest_word(bits) if first_bit == 1 else 1
    if any([number not in (0, change) for number in row]):
        return None
    table = [(first_bit ^ int(number_at(row, pattern) != 0)) << pattern for pattern in range(PATTERNS)]
    return sum(table)


def bit_tables(form, width):
    """A tuple with the table of each bit, None if the mix is not bitwise."""
    first, rows = form
    tables = [_row_table(rows[bit], first >> bit & 1, width - bit) for bit in range(width)]
    if any([table is None for table in tables]):
        return None
    return tuple(tables)


def _table_row(table, bits):
    """The row of a bit whose value for the pattern T is bit T of a table."""
    return tuple([to_word((table >> pattern & 1) - (table & 1), bits) for pattern in range(1, PATTERNS)])


def form_of_tables(tables, width):
    """The form of the bitwise mix with these tables of its bits."""
    first = sum([(table & 1) << bit for bit, table in enumerate(tables)])
    return (first, tuple([_table_row(table, width - bit) for bit, table in enumerate(tables)]))


def product_form(one, other, width):
    """The form of a product, None if neither part is constant."""
    if is_constant(one):
        return scaled_form(other, one[0], width)
    if is_constant(other):
        return scaled_form(one, other[0], width)
    return None


def _joined_table(operation, one, other):
    """The table of a bit of and, or, xor of two bits with these tables."""
    if operation == "and":
        return one & other
    if operation == "or":
        return one | other
    return one ^ other


def bitwise_form(operation, one, other, width):
    """The form of and, or, xor, None if a part is not bitwise."""
    first = bit_tables(one, width)
    second = bit_tables(other, width)
    if first is None or second is None:
        return None
    return form_of_tables([_joined_table(operation, x, y) for x, y in zip(first, second)], width)


def node_form(node, forms, width):
    """The form of a node, or of a row, whose parts have these forms; None if it is no mix."""
    operation = node[0]
    if operation == "name":
        return name_form(node[1], width)
    if operation == "number":
        return number_form(node[1], width)
    if operation == "not":
        return sum_form(number_form(-1, width), forms[0], -1, width)
    if operation == "neg":
        return scaled_form(forms[0], -1, width)
    if operation == "left":
        return scaled_form(forms[0], 1 << node[2], width)
    if operation == "add":
        return sum_form(forms[0], forms[1], 1, width)
    if operation == "sub":
        return sum_form(forms[0], forms[1], -1, width)
    if operation == "mul":
        return product_form(forms[0], forms[1], width)
    if operation in ("and", "or", "xor"):
        return bitwise_form(operation, forms[0], forms[1], width)
    return None
