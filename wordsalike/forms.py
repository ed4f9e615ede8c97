"""Forms: how words are divided by a fixed divisor without a division."""

from wordsalike.divisors import least_shift, told_quotient
from wordsalike.errors import BadWidth, BadWord, NoDivisor, TooLarge, UnequalWidths
from wordsalike.words import greatest_word, is_integer_within, is_width, is_word, twos_in


def best_form(divisor, width):
    """The form with the least shift; plain is preferred, if its factor is a word."""
    turn = twos_in(divisor)
    if divisor == 1 << turn:
        return ("shift", 1, turn)
    top = greatest_word(width)
    factor, shift = least_shift(divisor, top)
    if factor <= top:
        return ("plain", factor, shift)
    factor, shift = least_shift(divisor, top, kind="raised")
    return ("raised", factor, shift)


def form_value(form, word):
    """The quotient that a form tells of a word."""
    kind, factor, shift = form
    if kind == "shift":
        return word >> shift
    return told_quotient(factor, shift, word, kind)


def added_form(divisor, width):
    """A factor that is a word, and an amount, for a quotient that is told by a sum.

    The factor stands for the part of (2 ** size / divisor) above 1, with width bits behind the
    point, rounded up.
    """
    size = (divisor - 1).bit_length()
    factor = (((1 << size) - divisor) << width) // divisor + 1
    return (factor, size - 1)


class Divisor:
    """A divisor of the words of a width."""

    def __init__(self, value, width):
        if not is_width(width):
            raise BadWidth(width)
        if not is_integer_within(value, 2, greatest_word(width)):
            raise NoDivisor(value)
        self._value = value
        self._width = width
        self._form = best_form(value, width)

    @property
    def width(self):
        """The width of the words that are divided."""
        return self._width

    @property
    def divisor_value(self):
        """The integer by which words are divided."""
        return self._value

    def __call__(self, value):
        if not is_word(value, self._width):
            raise BadWord(value)
        return form_value(self._form, value)

    def __contains__(self, value):
        return is_word(value, self._width) and value % self._value == 0

    def __mul__(self, other):
        if self._width != other._width:
            raise UnequalWidths()
        product = self._value * other._value
        greatest = greatest_word(self._width)
        if product > greatest:
            raise TooLarge(greatest)
        return Divisor(product, self._width)

    def __eq__(self, other):
        return isinstance(other, Divisor) and self._value == other._value and self._width == other._width

    def __str__(self):
        return f"{self._value} at width {self._width}"
