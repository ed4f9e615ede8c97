"""Factors and shifts in the place of a signed division, rounded toward zero.

See wordsalike.divisors for the excess of a factor and a shift.
"""

from wordsalike.counting import common_range, quotient_up
from wordsalike.divisors import first_reaching


def told_signed(factor, shift, number):
    """The quotient of a signed number that a factor and a shift tell."""
    told = factor * number >> shift
    return told + 1 if number < 0 else told


def signed_dividends(divisor, width):
    """Three signed dividends that decide whether a factor is right at all of them."""
    half = 1 << (width - 1)
    below = (half + 1) // divisor * divisor - 1
    above = half // divisor * divisor - 1
    return (-divisor, -below, above)


def _factors_right_at(divisor, shift, number):
    """The range (low, high) of the factors that are right at a number other than 0."""
    quotient = abs(number) // divisor
    if number > 0:
        low = quotient_up(quotient << shift, number)
        return (low, (((quotient + 1) << shift) - 1) // number)
    # Below 0 the product is rounded away from zero before 1 is added.
    low = (quotient << shift) // -number + 1
    return (low, ((quotient + 1) << shift) // -number)


def signed_factors(divisor, width, shift):
    """The range (low, high) of the factors that are right at all signed dividends, or None."""
    numbers = signed_dividends(divisor, width)
    return common_range([_factors_right_at(divisor, shift, number) for number in numbers])


def least_wrong_signed(divisor, factor, shift):
    """The least integer from 1 on whose negative is told wrong."""
    power = 1 << shift
    excess = factor * divisor - power
    if factor == 0:
        return 1
    if excess <= 0:
        return divisor
    return first_reaching(divisor, factor, excess, power + 1)


def least_signed_shift(divisor, width):
    """The least shift with which some factor is right, behind the least such factor."""
    shift = 0
    factors = signed_factors(divisor, width, shift)
    while factors is None:
        shift += 1
        factors = signed_factors(divisor, width, shift)
    return (factors[0], shift)
