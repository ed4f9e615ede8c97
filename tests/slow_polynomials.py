"""Polynomials by the words of the document: powers, products and all words one by one."""

import itertools


def slow_value(numbers, word, width):
    """The value by the words of [24]."""
    return sum(number * word ** place for place, number in enumerate(numbers)) % 2 ** width


def falling_product(word, place):
    product = 1
    for less in range(place):
        product *= word - less
    return product


def slow_falling(numbers, word, width):
    """The sum of numbers times falling products at a word."""
    return sum(number * falling_product(word, place) for place, number in enumerate(numbers)) % 2 ** width


def factors_of_two(number):
    """How often 2 divides a number other than 0."""
    count = 0
    while number % 2 == 0:
        number //= 2
        count += 1
    return count


def slow_place_bits(place, width):
    product = 1
    for factor in range(1, place + 1):
        product *= factor
    return max(width - factors_of_two(product), 0)


def slow_bits(width):
    """The bits of all places up to the limit."""
    found = []
    while not found or found[-1] > 0:
        found.append(slow_place_bits(len(found), width))
    return found[:-1]


def all_reduced_forms(width):
    return itertools.product(*[range(2 ** bits) for bits in slow_bits(width)])


def value_table(numbers, width):
    """The values at all words."""
    return tuple(slow_value(numbers, word, width) for word in range(2 ** width))


def falling_table(form, width):
    """The values of a reduced form at all words."""
    return tuple(slow_falling(form, word, width) for word in range(2 ** width))


def product_of(roots):
    """The numbers of the product of x - root over some roots."""
    numbers = [1]
    for root in roots:
        longer = [0, *numbers]
        for place, number in enumerate(numbers):
            longer[place] -= root * number
        numbers = longer
    return tuple(numbers)


def some_polynomials(rng):
    """Polynomials with few and many, small and great numbers."""
    most = 10 ** 30 - 1
    found = [(), (0,), (1,), (-1,), (most,), (-most,), (0, 1), (1, -1), (0, 0, 1), (most,) * 80, (-most,) * 80,
             (most, -most) * 40, (0,) * 79 + (1,), (0,) * 80, (2 ** 64,) * 5, (2 ** 63, 2 ** 63)]
    for size in (1, 2, 3, 5, 8, 20, 66, 67, 80):
        found.append(tuple(rng.randrange(-9, 10) for _ in range(size)))
        found.append(tuple(rng.randrange(-most, most + 1) for _ in range(size)))
    return found


def some_permutations(rng):
    """Polynomials that permute the words of each width, with few and many, small and great numbers."""
    most = 10 ** 30 - 2
    found = [(0, 1), (5, -1), (1, 1), (0, 1, 2), (1, 5), (7, 2 ** 64 - 1, 4, 6)]
    for size in (2, 3, 5, 20, 66, 80):
        for bound in (8, most):
            numbers = [rng.randrange(-bound, bound + 1) // 2 * 2 for _ in range(size)]
            numbers[0] += rng.randrange(2)
            numbers[1] += 1
            found.append(tuple(numbers))
    return found
