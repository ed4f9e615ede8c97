"""Sums and ranges of integers, found without going through them one by one."""


def quotient_up(number, divisor):
    """The quotient rounded up."""
    return -(-number // divisor)


def common_range(ranges):
    """The (low, high) of the integers that are in all of some ranges, None if there are none."""
    low = max([part[0] for part in ranges])
    high = min([part[1] for part in ranges])
    return (low, high) if low <= high else None


def quotient_sum(count, modulus, factor, number):
    """The sum of (factor * t + number) // modulus over all t from 0 to count - 1.

    It goes on as Euclid does: below the modulus, the sum counts points under a line, and those
    are counted along the other axis.
    """
    total = 0
    while True:
        total = total + count * (count - 1) // 2 * (factor // modulus)
        total = total + count * (number // modulus)
        factor = factor % modulus
        number = number % modulus
        highest = factor * count + number
        if highest < modulus:
            return total
        count = highest // modulus
        number = highest % modulus
        modulus, factor = factor, modulus


def clamped_sum(count, modulus, factor, number, most):
    """As quotient_sum, but with 0 for each summand below 0, and most for each greater one.

    factor is not 0.
    """
    if factor < 0:
        # From the last summand to the first one they never become less.
        number = number + factor * (count - 1)
        factor = -factor
    begin = min(max(quotient_up(-number, factor), 0), count)
    end = min(max(quotient_up(most * modulus - number, factor), begin), count)
    between = quotient_sum(end - begin, modulus, factor, factor * begin + number)
    return between + most * (count - end)
