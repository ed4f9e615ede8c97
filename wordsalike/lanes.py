"""Rows read as mixes, and as polynomials, over a few values that stand for names.

A mix is decided by its words at the input of zeros and at the one-bit inputs. They are kept side
by side in one integer, each in a lane with a spare bit above it, that of the input of zeros
lowest. A polynomial is decided by its words at as many words as the reduced form has numbers.
"""

from wordsalike.mixforms import contains_name
from wordsalike.reduced import place_limit
from wordsalike.rows import INPUTS, operands_of
from wordsalike.words import greatest_word


def _repeated(step, many):
    """The integer with so many bits 1, one at each multiple of step."""
    return ((1 << step * many) - 1) // ((1 << step) - 1)


class Lanes:
    """The lanes for a width and a number of names."""

    def __init__(self, width, names):
        self._bits = width
        self._stride = width + 1
        self._patterns = list(range(1, 1 << names))
        many = 1 + width * len(self._patterns)
        self._ones = _repeated(self._stride, many)
        self._full = self._ones * greatest_word(width)
        self._even = _repeated(2 * self._stride, (many + 1) // 2) * greatest_word(width)
        self._own_bits = self._with_bits_of(self._patterns)

    def _with_bits_of(self, patterns):
        """The words that are 2 ** bit at the one-bit inputs of these patterns, and 0 elsewhere."""
        one = _repeated(self._stride + 1, self._bits)
        places = [self._stride * (1 + self._bits * (pattern - 1)) for pattern in patterns]
        return sum([one << place for place in places])

    def of_name(self, name):
        """The words of a name."""
        return self._with_bits_of([pattern for pattern in self._patterns if contains_name(pattern, name)])

    def _repeated_first(self, words):
        """The word at the input of zeros, in all lanes."""
        return self._ones * (words & greatest_word(self._bits))

    def _product(self, words, factor):
        """All words times a factor; every other lane is left empty for the high half of a product."""
        low = ((words & self._even) * factor) & self._even
        high = (((words >> self._stride) & self._even) * factor) & self._even
        return low | (high << self._stride)

    def _product_of_mixes(self, one, other):
        """The words of a product, None if neither part is constant."""
        greatest = greatest_word(self._bits)
        if one == self._repeated_first(one):
            return self._product(other, one & greatest)
        if other == self._repeated_first(other):
            return self._product(one, other & greatest)
        return None

    def _is_bitwise(self, words):
        """Whether each bit depends on the bits of the names at its place alone."""
        return (words ^ self._repeated_first(words)) & (self._full ^ self._own_bits) == 0

    def _bitwise(self, operation, one, other):
        """The words of and, or, xor, None if a part is not bitwise."""
        if not self._is_bitwise(one) or not self._is_bitwise(other):
            return None
        if operation == "and":
            return one & other
        return one | other if operation == "or" else one ^ other

    def of_row(self, row, known):
        """The words of a row whose operands have the known words, None if it is no mix."""
        operation = row[0]
        if operation == "number":
            return self._ones * row[1]
        parts = [known[operand] for operand in operands_of(row)]
        if operation == "not":
            return self._full ^ parts[0]
        if operation == "neg":
            return ((self._full ^ parts[0]) + self._ones) & self._full
        if operation == "left":
            return self._product(parts[0], 1 << row[2])
        if operation == "add":
            return (parts[0] + parts[1]) & self._full
        if operation == "sub":
            return (parts[0] + (self._full ^ parts[1]) + self._ones) & self._full
        if operation == "mul":
            return self._product_of_mixes(parts[0], parts[1])
        if operation in ("and", "or", "xor"):
            return self._bitwise(operation, parts[0], parts[1])
        return None


class Points:
    """The words from 0 on that decide which function a polynomial is at a width."""

    def __init__(self, width):
        self._greatest = greatest_word(width)
        self._words = list(range(place_limit(width)))

    def of_name(self, name):
        """The words of the only name, whatever its number is."""
        return list(self._words)

    def of_row(self, row, known):
        """The words of a row whose operands have the known words, None if it is not polynomial."""
        operation = row[0]
        greatest = self._greatest
        if operation == "number":
            return [row[1] for _ in self._words]
        parts = [known[operand] for operand in operands_of(row)]
        if operation == "not":
            return [word ^ greatest for word in parts[0]]
        if operation == "neg":
            return [-word & greatest for word in parts[0]]
        if operation == "left":
            return [(word << row[2]) & greatest for word in parts[0]]
        if operation == "add":
            return [(x + y) & greatest for x, y in zip(parts[0], parts[1])]
        if operation == "sub":
            return [(x - y) & greatest for x, y in zip(parts[0], parts[1])]
        if operation == "mul":
            return [(x * y) & greatest for x, y in zip(parts[0], parts[1])]
        return None


def _values_down_to(rows, tops, leaves):
    """An ascending list of the rows' values that lie between some values and the leaves.

    It is None if an input is reached that is no leaf.
    """
    needed = {top: True for top in tops}
    for value in reversed(range(max(tops) + 1)):
        if value in needed and value not in leaves:
            if value < INPUTS:
                return None
            for operand in operands_of(rows[value - INPUTS]):
                needed[operand] = True
    return [value for value in sorted(list(needed)) if value not in leaves]


def _words_of(space, rows, tops, leaves):
    """A list of what some values are in a space of words, None if one of them is nothing in it."""
    values = _values_down_to(rows, tops, leaves)
    if values is None:
        return None
    known = {leaf: space.of_name(name) for name, leaf in enumerate(leaves)}
    for value in values:
        known[value] = space.of_row(rows[value - INPUTS], known)
        if known[value] is None:
            return None
    return [known[top] for top in tops]


def mix_words(width, rows, tops, leaves):
    """A list of what some values are as mixes of the leaves, None if one of them is no mix.

    Two of them are alike if these are equal.
    """
    return _words_of(Lanes(width, len(leaves)), rows, tops, leaves)


def polynomial_words(width, rows, tops, leaf):
    """As mix_words, but for polynomials in one leaf: a list of words from 0 on for each value."""
    return _words_of(Points(width), rows, tops, (leaf,))
