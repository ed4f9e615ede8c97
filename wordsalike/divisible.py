"""Remainders by a fixed divisor, tested by a product that wraps round."""

from wordsalike.errors import Even
from wordsalike.words import to_word, twos_in


def opposite_of(number, width):
    """The word whose product with an odd number is 1; raises Even for an even one."""
    if number & 1 == 0:
        raise Even(number)
    opposite = 1
    product = to_word(number, width)
    # If the product is 1 + rest, the next one is 1 - rest * rest: twice as many low bits are right.
    while product != 1:
        opposite = to_word(opposite * (2 - product), width)
        product = to_word(opposite * number, width)
    return opposite


def residue_test(divisor, width, remainder):
    """The test that exactly the words with this remainder by the divisor pass."""
    turn = twos_in(divisor)
    factor = opposite_of(divisor >> turn, width)
    bound = ((1 << width) - 1 - remainder) // divisor
    return (remainder, factor, turn, bound)


def passes_test(test, width, word):
    """Whether a word passes a test."""
    remainder, factor, turn, bound = test
    product = to_word(factor * (word - remainder), width)
    # The low bits of the product are turned round to the high end.
    turned = (product >> turn) + (to_word(product, turn) << (width - turn))
    return turned <= bound
