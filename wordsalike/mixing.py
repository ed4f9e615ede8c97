"""The class of mixes as values: functions of the words of four names."""

from wordsalike.errors import NoSuchPattern, NotBitwise, UnequalWidths
from wordsalike.mixes import mix_form
from wordsalike.mixforms import (PATTERNS, bit_tables, bitwise_form, is_zero, matters, mix_value, number_form,
                                 pattern_input, scaled_form, sum_form)
from wordsalike.texts import parse_expression
from wordsalike.words import NAMES, greatest_word, is_integer_within

# Operators put a form in the place of an expression, behind this word: no expression begins with it.
FORM = "form"


class Mix:
    """A mix at a width, kept as its form."""

    def __init__(self, expression, width):
        self._width = width
        self._form = expression[1] if expression[0] == FORM else mix_form(expression, width)

    @classmethod
    def read(cls, value, width):
        """The mix of the expression whose text any value is."""
        return cls(parse_expression(value), width)

    @property
    def width(self):
        """The width of the words."""
        return self._width

    @property
    def first(self):
        """The value for the input of zeros."""
        return self._form[0]

    @property
    def rows(self):
        """The row of numbers for each bit, bit 0 first."""
        return self._form[1]

    def _require_width_of(self, other):
        """Raises an error if the other mix has another width."""
        if self._width != other._width:
            raise UnequalWidths()

    def _bitwise_with(self, operation, other):
        """The mix that and, or, xor makes of two bitwise mixes."""
        self._require_width_of(other)
        for index, mix in enumerate((self, other)):
            if bit_tables(mix._form, mix._width) is None:
                raise NotBitwise(index)
        return _of_form(bitwise_form(operation, self._form, other._form, self._width), self._width)

    def __add__(self, other):
        self._require_width_of(other)
        return _of_form(sum_form(self._form, other._form, 1, self._width), self._width)

    def __sub__(self, other):
        self._require_width_of(other)
        return _of_form(sum_form(self._form, other._form, -1, self._width), self._width)

    def __and__(self, other):
        return self._bitwise_with("and", other)

    def __or__(self, other):
        return self._bitwise_with("or", other)

    def __xor__(self, other):
        return self._bitwise_with("xor", other)

    def __mul__(self, number):
        return _of_form(scaled_form(self._form, number, self._width), self._width)

    def __lshift__(self, amount):
        return _of_form(scaled_form(self._form, 1 << amount, self._width), self._width)

    def __neg__(self):
        return _of_form(scaled_form(self._form, -1, self._width), self._width)

    def __invert__(self):
        return _of_form(sum_form(number_form(-1, self._width), self._form, -1, self._width), self._width)

    def __call__(self, a, b, c, d):
        return mix_value(self._form, self._width, (a, b, c, d))

    def __getitem__(self, pattern):
        if not is_integer_within(pattern, 0, PATTERNS - 1):
            raise NoSuchPattern(pattern)
        return mix_value(self._form, self._width, pattern_input(pattern, greatest_word(self._width)))

    def __iter__(self):
        raise TypeError("a mix is not iterated over")

    def __contains__(self, name):
        return is_integer_within(name, 0, NAMES - 1) and matters(self._form, name)

    def __len__(self):
        return len([name for name in range(NAMES) if matters(self._form, name)])

    def __bool__(self):
        return not is_zero(self._form)

    def __eq__(self, other):
        return isinstance(other, Mix) and self._width == other._width and self._form == other._form

    def __str__(self):
        return f"{self._width} bits, first {self._form[0]}, {len(self)} names"


def _of_form(form, width):
    """The Mix with this form."""
    return Mix((FORM, form), width)
