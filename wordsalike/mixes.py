"""Mixes: sums of bitwise expressions, compared for all inputs by their forms."""

from wordsalike.errors import NotMix
from wordsalike.expressions import parts_of
from wordsalike.mixforms import (PATTERNS, is_zero, matters, mix_value, node_form, number_at, pattern_input,
                                 pattern_of, sum_form)
from wordsalike.words import NAMES, twos_in


def _form_at(node, path, width):
    """The form of a node to which a path leads."""
    forms = [_form_at(part, (*path, place), width) for place, part in enumerate(parts_of(node), start=1)]
    form = node_form(node, forms, width)
    if form is None:
        raise NotMix(path)
    return form


def mix_form(expression, width):
    """The form of a mix; raises NotMix for any other expression."""
    return _form_at(expression, (), width)


def _difference_form(one, other, width):
    """The form of one less the other."""
    first = mix_form(one, width)
    return sum_form(first, mix_form(other, width), -1, width)


def mixes_alike(one, other, width):
    """Whether two mixes have the same value for each input."""
    return is_zero(_difference_form(one, other, width))


def bit_difference(one, other, width):
    """The input of zeros or a one-bit input at which two mixes differ, None if they are alike."""
    first, rows = _difference_form(one, other, width)
    if first != 0:
        return pattern_input(0, 0)
    for bit, row in enumerate(rows):
        for pattern in range(PATTERNS):
            if number_at(row, pattern) != 0:
                return pattern_input(pattern, 1 << bit)
    return None


def _is_moved(row, pattern, step):
    """Whether the number of a pattern changes with some names more: those of a multiple of step."""
    numbers = [number_at(row, pattern | more) for more in range(0, PATTERNS, step)]
    return any([number != numbers[0] for number in numbers])


def _moved_bits(rows, words, step):
    """A list of the bits at which the names of some multiple of step make a difference."""
    return [bit for bit, row in enumerate(rows) if _is_moved(row, pattern_of(words, bit), step)]


def _least_word(form, width, words):
    """The least word behind these words with which the value is not 0 for some further words.

    There is such a word. The names up to the last of the words are in no multiple of step.
    """
    step = 1 << len(words)
    if mix_value(form, width, words) != 0 or len(_moved_bits(form[1], words, 2 * step)) > 0:
        return 0
    # Without the next name the value is always 0: so a bit that makes a difference does so alone.
    return 1 << _moved_bits(form[1], words, step)[0]


def least_difference(one, other, width):
    """The least input at which two mixes differ, None if they are alike."""
    form = _difference_form(one, other, width)
    if is_zero(form):
        return None
    words = ()
    for _ in range(NAMES):
        words = (*words, _least_word(form, width, words))
    return words


def low_agreement(one, other, width):
    """The greatest number of low bits in which two mixes agree for each input."""
    first, rows = _difference_form(one, other, width)
    changes = [first]
    for bit, row in enumerate(rows):
        changes.extend([number << bit for number in row])
    return min([twos_in(change) for change in changes if change != 0], default=width)


def name_matters(expression, width, name):
    """Whether the value depends on a name."""
    return matters(mix_form(expression, width), name)
