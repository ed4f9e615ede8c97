"""The class of the functions that polynomials make of the words of a width."""

from wordsalike.errors import BadPolynomial, BadWidth, BadWord, NoSuchIndex, UnequalWidths
from wordsalike.lifting import count_zeros
from wordsalike.permuting import composed_form, inverse_form, repeated_form
from wordsalike.reduced import (falling_value, form_degree, is_polynomial, polynomial_through, power_numbers,
                                reduced_form)
from wordsalike.words import is_integer_within, is_width, is_word, to_word


class Polynomial:
    """A polynomial at a width, kept as its reduced form."""

    def __init__(self, numbers, width):
        if not is_polynomial(numbers):
            raise BadPolynomial(numbers)
        if not is_width(width):
            raise BadWidth(width)
        self._width = width
        self._rows = reduced_form(numbers, width)

    @property
    def width(self):
        """The width of the words."""
        return self._width

    @property
    def rows(self):
        """The reduced form."""
        return self._rows

    @property
    def degree(self):
        """The least degree of an alike polynomial."""
        return form_degree(self._rows)

    def _powers(self):
        """The numbers of an alike polynomial, as words."""
        return _powers_of(self._rows, self._width)

    def _values(self):
        """A list of the values at as many words as decide which function it is."""
        return [falling_value(self._rows, word, self._width) for word in range(len(self._rows))]

    def inverse(self):
        """The polynomial that leads each value back to its word."""
        return _of_form(inverse_form(self._powers(), self._width), self._width)

    def _require_width_of(self, other):
        """Raises an error if the other polynomial has another width."""
        if self._width != other._width:
            raise UnequalWidths()

    def __call__(self, word):
        if not is_word(word, self._width):
            raise BadWord(word)
        return falling_value(self._rows, word, self._width)

    def __add__(self, other):
        self._require_width_of(other)
        return _of_form([one + another for one, another in zip(self._rows, other._rows)], self._width)

    def __sub__(self, other):
        self._require_width_of(other)
        return _of_form([one - another for one, another in zip(self._rows, other._rows)], self._width)

    def __neg__(self):
        return _of_form([-number for number in self._rows], self._width)

    def __mul__(self, other):
        self._require_width_of(other)
        values = [to_word(one * another, self._width) for one, another in zip(self._values(), other._values())]
        return _of_form(polynomial_through(tuple(values), self._width)[1], self._width)

    def __rshift__(self, other):
        self._require_width_of(other)
        return _of_form(composed_form(other._powers(), self._powers(), self._width), self._width)

    def __pow__(self, times):
        return _of_form(repeated_form(self._powers(), times, self._width), self._width)

    def __getitem__(self, place):
        if not is_integer_within(place, 0, len(self._rows) - 1):
            raise NoSuchIndex(place)
        return self._rows[place]

    def __iter__(self):
        raise TypeError("a polynomial is not iterated over")

    def __contains__(self, word):
        if not is_word(word, self._width):
            return False
        powers = self._powers()
        return count_zeros((powers[0] - word, *powers[1:]), self._width) > 0

    def __len__(self):
        return len([number for number in self._rows if number != 0])

    def __bool__(self):
        return any([number != 0 for number in self._rows])

    def __eq__(self, other):
        return isinstance(other, Polynomial) and self._width == other._width and self._rows == other._rows

    def __str__(self):
        return " ".join([f"{self._width} bits:", *[str(number) for number in self._rows]])


def _powers_of(falling, width):
    """The numbers, as words, of the polynomial with these falling numbers."""
    return tuple([to_word(number, width) for number in power_numbers(falling)])


def _of_form(falling, width):
    """The Polynomial with these falling numbers."""
    return Polynomial(_powers_of(falling, width), width)
