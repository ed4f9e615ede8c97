"""Integers, widths and words."""

from wordsalike.bounds import WIDTH

# An input has a word for each of so many names.
NAMES = 4


def is_integer(value):
    """Whether any value is an int; True and False are none."""
    return isinstance(value, int) and not isinstance(value, bool)


def is_integer_within(value, low, high):
    """Whether any value is an integer from low to high."""
    return is_integer(value) and low <= value <= high


def is_width(value):
    """Whether any value is a width."""
    return is_integer_within(value, 1, WIDTH)


def greatest_word(width):
    """The word of which all bits are 1."""
    return (1 << width) - 1


def is_word(value, width):
    """Whether any value is a word of a width."""
    return is_integer_within(value, 0, greatest_word(width))


def is_input(value, width):
    """Whether any value is an input: a tuple with a word for each name."""
    return isinstance(value, tuple) and len(value) == NAMES and all([is_word(word, width) for word in value])


def to_word(number, width):
    """An integer modulo 2 to the power of the width."""
    return number & greatest_word(width)


def signed_value(word, width):
    """The word, or what it stands for below 0 if its highest bit is 1."""
    if word >> (width - 1) == 0:
        return word
    return word - (1 << width)


def twos_in(number):
    """How often 2 divides an integer other than 0."""
    return (number & -number).bit_length() - 1
