"""The numbers on a line that wraps round at a modulus."""

from wordsalike.counting import quotient_sum
from wordsalike.masks import Mask


def count_on_line(count, modulus, factor, number, limit):
    """For how many t from 0 to count - 1 the number at t is less than limit.

    It is less exactly if a multiple of the modulus is among the limit integers that end with
    number + factor * t. There is one at most, and the difference of two quotients counts it.
    """
    passed = quotient_sum(count, modulus, factor, number)
    return passed - quotient_sum(count, modulus, factor, number - limit)


def least_on_line(count, modulus, factor, number):
    """The least of the numbers at t from 0 to count - 1."""
    low = 0
    high = number
    while low < high:
        middle = (low + high) // 2
        if count_on_line(count, modulus, factor, number, middle + 1) > 0:
            high = middle
        else:
            low = middle + 1
    return low


def line_mask(stretch, factor, number):
    """The narrowest mask of factor * x + number for the words x of a stretch.

    A bit is 0 where the number, modulo twice its power of two, is less than this power.
    """
    start = factor * stretch.first + number
    least = 0
    greatest = 0
    for place in range(stretch.width):
        power = 1 << place
        modulus = 2 * power
        zeros = count_on_line(stretch.extent, modulus, factor % modulus, start % modulus, power)
        if zeros == 0:
            least = least | power
        if zeros < stretch.extent:
            greatest = greatest | power
    return Mask(stretch.width, least, greatest)
