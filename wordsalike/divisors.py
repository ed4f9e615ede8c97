"""Factors and shifts in the place of a division by a fixed divisor.

Each dividend is quotient * divisor + rest, the rest less than the divisor. The excess of a
factor and a shift is factor * divisor - 2 ** shift: so the factor times a dividend is
2 ** shift * quotient + (excess * quotient + factor * rest), and the part in parentheses decides
whether the quotient is told.
"""

from wordsalike.counting import clamped_sum, common_range, quotient_up
from wordsalike.words import is_integer_within

GREATEST_FACTOR = (1 << 200) - 1
GREATEST_SHIFT = 192


def _multiplied(number, kind):
    """What the factor is multiplied with in a kind."""
    return number + 1 if kind == "raised" else number


def told_quotient(factor, shift, number, kind):
    """The quotient that a factor and a shift tell."""
    return factor * _multiplied(number, kind) >> shift


def first_reaching(divisor, factor, excess, bound):
    """The least number with excess * quotient + factor * rest >= bound.

    factor and excess are greater than 0.
    """
    quotient = max(quotient_up(bound - factor * (divisor - 1), excess), 0)
    rest = max(quotient_up(bound - excess * quotient, factor), 0)
    return quotient * divisor + rest


def _least_wrong_raised(divisor, factor, power):
    """The least integer at which a factor is wrong in the kind raised."""
    lack = power - factor * divisor
    if lack <= 0:
        return quotient_up(power, factor) - 1
    return (factor // lack + 1) * divisor


def least_wrong(divisor, factor, shift, *, kind="plain"):
    """The least integer from 0 on at which factor and shift are wrong, None if there is none."""
    power = 1 << shift
    if kind == "raised":
        return _least_wrong_raised(divisor, factor, power)
    excess = factor * divisor - power
    if excess == 0:
        return None
    if excess < 0:
        return divisor
    return first_reaching(divisor, factor, excess, power)


def two_dividends(divisor, top, *, kind="plain"):
    """Two dividends that decide whether a factor is right up to top."""
    if kind == "raised":
        return (divisor - 1, top // divisor * divisor)
    return (divisor, (top + 1) // divisor * divisor - 1)


def _factors_right_at(divisor, shift, number, kind):
    """The range (low, high) of the factors that are right at a number."""
    quotient = number // divisor
    multiplied = _multiplied(number, kind)
    low = quotient_up(quotient << shift, multiplied)
    high = (((quotient + 1) << shift) - 1) // multiplied
    return (low, high)


def right_factors(divisor, top, shift, *, kind="plain"):
    """The range (low, high) of the factors that are right up to top, None if there are none."""
    numbers = two_dividends(divisor, top, kind=kind)
    return common_range([_factors_right_at(divisor, shift, number, kind) for number in numbers])


def is_right(divisor, top, value, *, kind="plain"):
    """Whether any value is a tuple (factor, shift) that is right up to top."""
    if not isinstance(value, tuple) or len(value) != 2:
        return False
    factor, shift = value
    if not is_integer_within(factor, 0, GREATEST_FACTOR):
        return False
    if not is_integer_within(shift, 0, GREATEST_SHIFT):
        return False
    numbers = two_dividends(divisor, top, kind=kind)
    return all([told_quotient(factor, shift, x, kind) == x // divisor for x in numbers])


def least_shift(divisor, top, *, kind="plain"):
    """The least shift with which some factor is right up to top, behind the least such factor."""
    shift = 1
    factors = right_factors(divisor, top, shift, kind=kind)
    while factors is None:
        shift += 1
        factors = right_factors(divisor, top, shift, kind=kind)
    return (factors[0], shift)


def shift_paper(divisor, top, *, kind="plain"):
    """A paper that shows that no lesser shift has a factor that is right up to top."""
    factor, shift = least_shift(divisor, top, kind=kind)
    one, other = two_dividends(divisor, top, kind=kind)
    if kind == "raised":
        # Here too small factors fail at the greater dividend, too great ones at the lesser one.
        one, other = other, one
    low = _factors_right_at(divisor, shift - 1, one, kind)[0]
    return (factor, shift, low - 1, one, other)


def shift_paper_holds(divisor, top, value, *, kind="plain"):
    """Whether any value is a shift paper."""
    if not isinstance(value, tuple) or len(value) != 5:
        return False
    factor, shift, last, one, other = value
    if not is_right(divisor, top, (factor, shift), kind=kind) or shift == 0:
        return False
    if not is_integer_within(last, 0, GREATEST_FACTOR):
        return False
    if not is_integer_within(one, 0, top) or not is_integer_within(other, 0, top):
        return False
    too_low = told_quotient(last, shift - 1, one, kind) < one // divisor
    return too_low and told_quotient(last + 1, shift - 1, other, kind) > other // divisor


def _count_below(divisor, top, factor, bound, step):
    """The number of dividends with factor * rest < bound + step * quotient.

    Among those with one quotient, so many rests from 0 on are such ones as the quotient of the
    right side by the factor, rounded up, tells. factor is greater than 0, step is not 0.
    """
    blocks = (top + 1) // divisor
    remaining = (top + 1) % divisor
    number = bound + factor - 1
    whole = clamped_sum(blocks, factor, step, number, divisor)
    return whole + clamped_sum(1, factor, step, number + step * blocks, remaining)


def count_wrong(divisor, top, factor, shift):
    """The number of dividends at which factor and shift are wrong."""
    power = 1 << shift
    excess = factor * divisor - power
    if excess == 0:
        return 0
    if excess > 0:
        return top + 1 - _count_below(divisor, top, factor, power, -excess)
    if factor == 0:
        return top + 1 - divisor
    return _count_below(divisor, top, factor, 0, -excess)


def _wrong_rests(divisor, factor, shift, quotient):
    """The (low, high) of the rests, high left out, with which numbers of a quotient are wrong.

    The excess is not 0.
    """
    power = 1 << shift
    excess = factor * divisor - power
    if excess > 0:
        return (max(quotient_up(power - excess * quotient, factor), 0), divisor)
    if factor == 0:
        return (0, divisor)
    return (0, min(quotient_up(-excess * quotient, factor), divisor))


def wrong_dividends(divisor, factor, shift, *, start=0):
    """Yields the integers from start on at which factor and shift are wrong, without an end."""
    least = least_wrong(divisor, factor, shift)
    if least is None:
        return
    quotient = max(start, least) // divisor
    while True:
        low, high = _wrong_rests(divisor, factor, shift, quotient)
        begin = quotient * divisor
        for number in range(max(start, begin + low), begin + high):
            yield number
        quotient += 1


def told_remainder(divisor, factor, shift, number):
    """The remainder that a factor and a shift tell."""
    kept = (factor * number) & ((1 << shift) - 1)
    return kept * divisor >> shift


def remainder_factors(divisor, top, shift):
    """The range (low, high) of the factors that tell all remainders, None if there are none.

    They are those with an excess from 0 on that is less than 2 ** shift even times top.
    """
    power = 1 << shift
    low = quotient_up(power, divisor)
    high = (power + (power - 1) // top) // divisor
    return common_range([(low, high), (0, power - 1)])


def least_wrong_remainder(divisor, factor, shift):
    """The least integer from 0 on of which the remainder is told wrong, None if there is none."""
    power = 1 << shift
    excess = factor * divisor - power
    if excess == 0:
        return None
    if excess < 0:
        return 1
    return quotient_up(power, excess)
