"""Polynomials that permute the words, and what becomes of words that go through them."""

from wordsalike.errors import NotPermutation
from wordsalike.reduced import falling_value, place_limit, polynomial_through, polynomial_value, reduced_form
from wordsalike.words import is_word, to_word


def _lowest_bit(numbers, word):
    """The lowest bit of the value at a word."""
    return polynomial_value(numbers, word, 1)


def find_permutation(numbers, width):
    """("yes",) if a polynomial is a permutation, otherwise what shows that it is none.

    The value at word + half differs from that at word by half times the slope at word, and
    whether the slope is odd depends on the lowest bit of the word alone. If both slopes are odd,
    different bits at a place remain different bits of the values there, at every place.
    """
    bit = _lowest_bit(numbers, 0)
    if _lowest_bit(numbers, 1) == bit:
        return ("never", 1 - bit)
    half = 1 << (width - 1)
    for word in (0, 1):
        if polynomial_value(numbers, word, width) == polynomial_value(numbers, word + half, width):
            return ("same", word, word + half)
    return ("yes",)


def _is_never(numbers, width, word):
    """Whether a word has a lowest bit that no value has."""
    bit = _lowest_bit(numbers, 0)
    return is_word(word, width) and _lowest_bit(numbers, 1) == bit and word & 1 != bit


def _is_same(numbers, width, first, second):
    """Whether two values of any kind are two words, the lesser one first, with the same value."""
    if not is_word(first, width) or not is_word(second, width) or first >= second:
        return False
    return polynomial_value(numbers, first, width) == polynomial_value(numbers, second, width)


def check_permutation(numbers, width, value):
    """Whether any value is a result that find_permutation might return."""
    if not isinstance(value, tuple):
        return False
    if len(value) == 3 and value[0] == "same":
        return _is_same(numbers, width, value[1], value[2])
    if len(value) == 2 and value[0] == "never":
        return _is_never(numbers, width, value[1])
    return value == ("yes",) and find_permutation(numbers, width) == value


def _require_permutation(numbers, width):
    """Raises an error if a polynomial is not a permutation."""
    found = find_permutation(numbers, width)
    if found != ("yes",):
        raise NotPermutation(found)


def _form_through(values, width):
    """The reduced form with the values of some polynomial at as many words as are needed."""
    return polynomial_through(tuple(values), width)[1]


def composed_form(one, other, width):
    """The reduced form of one at the value of other."""
    between = [polynomial_value(other, word, width) for word in range(place_limit(width))]
    return _form_through([polynomial_value(one, word, width) for word in between], width)


def _form_twice(form, width):
    """The reduced form that has the effect of a reduced form two times."""
    between = [falling_value(form, word, width) for word in range(len(form))]
    return _form_through([falling_value(form, word, width) for word in between], width)


def repeated_form(numbers, times, width):
    """The reduced form of what a word becomes if it is replaced by its value so many times."""
    form = reduced_form(numbers, width)
    words = list(range(len(form)))
    while times > 0:
        if times & 1 == 1:
            words = [falling_value(form, word, width) for word in words]
        form = _form_twice(form, width)
        times = times >> 1
    return _form_through(words, width)


def _word_led_to(numbers, value, width):
    """The word at which a permutation has a value; each bit of it settles one more of the value."""
    word = 0
    for place in range(width):
        if polynomial_value(numbers, word, place + 1) != to_word(value, place + 1):
            word = word | 1 << place
    return word


def inverse_form(numbers, width):
    """The reduced form that leads the value of a permutation at each word back to the word."""
    _require_permutation(numbers, width)
    values = range(place_limit(width))
    return _form_through([_word_led_to(numbers, value, width) for value in values], width)


def cycle_bits(numbers, word, width):
    """The m with which a word comes back first after 2 ** m steps through a permutation."""
    _require_permutation(numbers, width)
    form = reduced_form(numbers, width)
    doublings = 0
    while falling_value(form, word, width) != word:
        form = _form_twice(form, width)
        doublings += 1
    return doublings
