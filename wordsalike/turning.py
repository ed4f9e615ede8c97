"""Mixes that can be solved for the word of a name."""

from wordsalike.errors import NotReversible
from wordsalike.expressions import value_at
from wordsalike.mixes import mix_form
from wordsalike.mixforms import mix_value, name_turns, pattern_input
from wordsalike.words import NAMES, is_input


def _even_turn(form, width, name):
    """The highest bit, with a pattern, at which a name adds an even number; None if there is none."""
    for bit in reversed(range(width)):
        for pattern, turn in name_turns(form[1][bit], name):
            if turn & 1 == 0:
                return (bit, pattern)
    return None


def _with_word(words, name, word):
    """The input with another word for a name."""
    return tuple([word if at == name else words[at] for at in range(NAMES)])


def _led_to(form, width, words, name, value, begin):
    """The input that comes if bits of a name, from begin on, are set until the value is reached.

    They are 0 so far, and at each of them the name adds an odd number: so it settles one more
    bit of the value. The bits of the value below begin are settled.
    """
    for bit in range(begin, width):
        if (mix_value(form, width, words) ^ value) >> bit & 1 == 1:
            words = _with_word(words, name, words[name] | 1 << bit)
    return words


def turn_paper(expression, width, name):
    """("odd",) if the mix is reversible in a name, otherwise two inputs that show it is not."""
    form = mix_form(expression, width)
    found = _even_turn(form, width, name)
    if found is None:
        return ("odd",)
    bit, pattern = found
    one = pattern_input(pattern, 1 << bit)
    # Setting this bit leaves the bit of the value as it is; the bits above can make up for the rest.
    turned = _with_word(one, name, 1 << bit)
    other = _led_to(form, width, turned, name, mix_value(form, width, one), bit + 1)
    return ("same", one, other)


def _is_same(expression, width, name, one, other):
    """Whether two values of any kind are inputs as told for the result same."""
    if not is_input(one, width) or not is_input(other, width):
        return False
    if one[name] == other[name] or _with_word(one, name, other[name]) != other:
        return False
    return value_at(expression, width, one) == value_at(expression, width, other)


def check_turning(expression, width, name, value):
    """Whether any value is a result that turn_paper might return."""
    form = mix_form(expression, width)
    if not isinstance(value, tuple):
        return False
    if len(value) == 3 and value[0] == "same":
        return _is_same(expression, width, name, value[1], value[2])
    return value == ("odd",) and _even_turn(form, width, name) is None


def solve_name(expression, width, words, name, word):
    """The only word for a name with which the value is a given word."""
    form = mix_form(expression, width)
    if _even_turn(form, width, name) is not None:
        raise NotReversible(name)
    return _led_to(form, width, _with_word(words, name, 0), name, word, 0)[name]
