"""The inputs at which a short plain mix has a given value.

Its value is the sum of 2 ** bit * number over all bits, where the pattern of the names at a bit
tells the number. From the lowest bit up, a carry is what is left of the sum when the bits of the
word that are settled are taken away and the rest is halved.
"""

from wordsalike.bounds import SHORT
from wordsalike.errors import TooLarge
from wordsalike.expressions import value_at
from wordsalike.mixforms import contains_name
from wordsalike.tables import plain_table
from wordsalike.words import NAMES, is_input, is_integer_within, signed_value


def _signed_table(expression, width):
    """A list of the signed words in the table of a short plain mix; raises TooLarge for other mixes."""
    table = plain_table(expression, width)
    if table is None:
        raise TooLarge(SHORT)
    numbers = [signed_value(word, width) for word in table]
    if any([abs(number) > SHORT for number in numbers]):
        raise TooLarge(SHORT)
    return numbers


def _next_carries(carry, numbers, bit):
    """A list of (carry, pattern) for the patterns with which the lowest bit is as told."""
    totals = [(carry + number - bit, pattern) for pattern, number in enumerate(numbers)]
    return [(total >> 1, pattern) for total, pattern in totals if total & 1 == 0]


def _origins_behind(carries, numbers, bit):
    """A dict from each carry behind a bit to a pair of a carry before it and a pattern."""
    origins = {}
    for carry in carries:
        for after, pattern in _next_carries(carry, numbers, bit):
            origins[after] = (carry, pattern)
    return origins


def _input_of(patterns):
    """The input with these patterns, that of bit 0 first."""
    words = [0 for _ in range(NAMES)]
    for bit, pattern in enumerate(patterns):
        for name in range(NAMES):
            if contains_name(pattern, name):
                words[name] += 1 << bit
    return tuple(words)


def _patterns_to(levels):
    """A list of patterns that lead from the first level of carries to the last one."""
    carry = min(list(levels[-1]))
    patterns = []
    for level in reversed(list(levels[1:])):
        carry, pattern = level[carry]
        patterns.append(pattern)
    return patterns[::-1]


def find_input(expression, width, word):
    """("input", words) with an input at which the value is word, or ("never", sets)."""
    numbers = _signed_table(expression, width)
    levels = [{0: None}]
    for bit in range(width):
        levels.append(_origins_behind(list(levels[bit]), numbers, word >> bit & 1))
        if len(levels[-1]) == 0:
            return ("never", tuple([tuple(sorted(list(level))) for level in levels]))
    return ("input", _input_of(_patterns_to(levels)))


def _is_carry_set(value):
    """Whether any value is an ascending tuple of integers as carries can be."""
    if not isinstance(value, tuple):
        return False
    if not all([is_integer_within(carry, -SHORT - 1, SHORT + 1) for carry in value]):
        return False
    return all([value[at] < value[at + 1] for at in range(len(value) - 1)])


def _leads_into(carries, numbers, bit, others):
    """Whether all carries that come from some carries are among the others."""
    inside = {other: True for other in others}
    return all([after in inside for carry in carries for after, _ in _next_carries(carry, numbers, bit)])


def _is_never(numbers, width, word, value):
    """Whether any value is a tuple of sets which shows that no input has the value word."""
    if not isinstance(value, tuple) or not 2 <= len(value) <= width + 1:
        return False
    if not all([_is_carry_set(carries) for carries in value]) or 0 not in value[0] or value[-1] != ():
        return False
    bits = range(len(value) - 1)
    return all([_leads_into(value[bit], numbers, word >> bit & 1, value[bit + 1]) for bit in bits])


def check_input(expression, width, word, value):
    """Whether any value is a result that find_input might return."""
    numbers = _signed_table(expression, width)
    if not isinstance(value, tuple) or len(value) != 2:
        return False
    kind, told = value
    if kind == "never":
        return _is_never(numbers, width, word, told)
    if kind != "input" or not is_input(told, width):
        return False
    return value_at(expression, width, told) == word


def count_inputs(expression, width, word):
    """The number of the inputs at which the value is word."""
    numbers = _signed_table(expression, width)
    counts = {0: 1}
    for bit in range(width):
        after_counts = {}
        for carry in counts:
            for after, _ in _next_carries(carry, numbers, word >> bit & 1):
                after_counts[after] = after_counts.get(after, 0) + counts[carry]
        counts = after_counts
    return sum(list(counts.values()))
