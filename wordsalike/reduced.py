"""Polynomials that wrap round, and the form to which each of them is reduced.

A falling product of a place is a multiple of place! at each word. So the factors 2 of place!
are lost from the number at this place, and nothing else is.
"""

from wordsalike.divisible import opposite_of
from wordsalike.words import greatest_word, is_integer_within, to_word, twos_in

# A polynomial has at most so many numbers, each at most so far from 0.
MOST_NUMBERS = 80
GREATEST_NUMBER = 10 ** 30 - 1


def is_polynomial(value):
    """Whether any value is a polynomial."""
    if not isinstance(value, tuple) or len(value) > MOST_NUMBERS:
        return False
    return all([is_integer_within(number, -GREATEST_NUMBER, GREATEST_NUMBER) for number in value])


def polynomial_value(numbers, word, width):
    """The value of a polynomial at a word."""
    greatest = greatest_word(width)
    value = 0
    for number in reversed(list(numbers)):
        value = (value * word + number) & greatest
    return value


def falling_value(numbers, word, width):
    """The value at a word of the sum of numbers times falling products."""
    greatest = greatest_word(width)
    value = 0
    for place in reversed(range(len(numbers))):
        value = (value * (word - place) + numbers[place]) & greatest
    return value


def falling_numbers(numbers):
    """The tuple of the falling numbers of a polynomial."""
    found = list(numbers)
    # Dividing by x - place leaves the number at this place, and the quotient above it.
    for place in range(1, len(found)):
        for above in reversed(range(place, len(found) - 1)):
            found[above] = found[above] + place * found[above + 1]
    return tuple(found)


def power_numbers(numbers):
    """The tuple of the numbers of the polynomial that has these falling numbers."""
    found = list(numbers)
    for place in reversed(range(1, len(found))):
        for above in range(place, len(found) - 1):
            found[above] = found[above] - place * found[above + 1]
    return tuple(found)


def place_bits(place, width):
    """How many bits of the number at a place of a falling form count."""
    twos = 0
    while place > 0:
        place = place >> 1
        twos = twos + place
    return max(width - twos, 0)


def place_limit(width):
    """The least place with 0 bits."""
    place = 0
    while place_bits(place, width) > 0:
        place += 1
    return place


def is_zero_everywhere(numbers, width):
    """Whether a polynomial, of any size, has the value 0 at each word."""
    falling = falling_numbers(numbers)
    return all([to_word(number, place_bits(place, width)) == 0 for place, number in enumerate(falling)])


def reduced_form(numbers, width):
    """The reduced form that is alike to a polynomial."""
    places = range(place_limit(width))
    falling = falling_numbers([to_word(number, width) for number in numbers])
    padded = [*falling, *[0 for _ in places]]
    return tuple([to_word(padded[place], place_bits(place, width)) for place in places])


def reduced_powers(numbers, width):
    """The alike polynomial with as few bits at each place as the reduced form has."""
    falling = list(reduced_form(numbers, width))
    found = list(falling)
    for place in reversed(range(len(found))):
        found[place] = to_word(falling[place], place_bits(place, width))
        # The power of this place is its falling product and a sum of lower ones.
        power = falling_numbers([*[0 for _ in range(place)], found[place]])
        for lower in range(place):
            falling[lower] = falling[lower] - power[lower]
    return tuple(found)


def form_degree(form):
    """The greatest place with a number other than 0, -1 if there is none."""
    return max([place for place, number in enumerate(form) if number != 0], default=-1)


def least_degree(numbers, width):
    """The least degree of a polynomial that is alike, -1 if all values are 0."""
    return form_degree(reduced_form(numbers, width))


def polynomials_alike(one, other, width):
    """Whether two polynomials have the same value at each word."""
    return reduced_form(one, width) == reduced_form(other, width)


def polynomial_difference(one, other, width):
    """The least word at which two polynomials differ, and both values; None if they are alike."""
    first = reduced_form(one, width)
    second = reduced_form(other, width)
    for word in range(len(first)):
        if first[word] != second[word]:
            return (word, polynomial_value(one, word, width), polynomial_value(other, word, width))
    return None


def _differences(values):
    """A list of the differences of some values, by their indexes."""
    found = []
    row = list(values)
    while len(row) > 0:
        found.append(row[0])
        row = [row[at + 1] - row[at] for at in range(len(row) - 1)]
    return found


def _fits(difference, place, width):
    """Whether a difference at an index, a place of a form, is a multiple as it must be."""
    return to_word(difference, width - place_bits(place, width)) == 0


def polynomial_through(values, width):
    """The reduced form with these values at 0, 1 and so on, or an index that shows there is none."""
    form = [0 for _ in range(place_limit(width))]
    # A difference is the number at its place times 1 * 2 * .. * place; odd is this product
    # without its factors 2.
    odd = 1
    for place, difference in enumerate(_differences(values)):
        if not _fits(difference, place, width):
            return ("none", place)
        if place > 0:
            odd = to_word(odd * (place >> twos_in(place)), width)
        bits = place_bits(place, width)
        if bits > 0:
            form[place] = to_word((difference >> (width - bits)) * opposite_of(odd, width), bits)
    return ("form", tuple(form))


def _is_reduced_form(value, width):
    """Whether any value is a reduced form."""
    if not isinstance(value, tuple) or len(value) != place_limit(width):
        return False
    bounds = [greatest_word(place_bits(place, width)) for place in range(len(value))]
    return all([is_integer_within(number, 0, bound) for number, bound in zip(value, bounds)])


def check_through(values, width, value):
    """Whether any value is a form with these values, or an index that shows there is none."""
    if not isinstance(value, tuple) or len(value) != 2:
        return False
    kind, told = value
    if kind == "none":
        if not is_integer_within(told, 0, len(values) - 1):
            return False
        return not _fits(_differences(values)[told], told, width)
    if kind != "form" or not _is_reduced_form(told, width):
        return False
    return all([falling_value(told, word, width) == values[word] for word in range(len(values))])
