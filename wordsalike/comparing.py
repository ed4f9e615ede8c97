"""Masks and stretches against one another, and comparisons of their words."""

from wordsalike.errors import UnequalWidths
from wordsalike.masks import Mask
from wordsalike.stretches import Stretch
from wordsalike.words import greatest_word, signed_value


def mask_around(stretch):
    """The narrowest mask of the words of a stretch."""
    # Below the highest bit in which its words differ, both 0 and 1 come before and behind.
    open_bits = greatest_word((stretch.least ^ stretch.greatest).bit_length())
    return Mask(stretch.width, stretch.least & ~open_bits, stretch.greatest | open_bits)


def stretch_around(mask):
    """The narrowest stretch of the members of a mask."""
    # No gap between two members is greater than the one around the end.
    return Stretch(mask.width, mask.least, mask.greatest - mask.least + 1)


def _with_other_signs(part):
    """The mask or stretch of the words with the highest bit turned."""
    half = 1 << (part.width - 1)
    if isinstance(part, Mask):
        return part ^ Mask(part.width, half, half)
    return part + Stretch(part.width, half, 1)


def _ends_of(word, part):
    """The first and the last word of a mask or stretch in the order of less or signed."""
    if word == "less":
        return (part.least, part.greatest)
    half = 1 << (part.width - 1)
    turned = _with_other_signs(part)
    return (turned.least ^ half, turned.greatest ^ half)


def _holds(word, width, x, y):
    """Whether a comparison holds for two words."""
    if word == "less":
        return x < y
    if word == "same":
        return x == y
    return signed_value(x, width) < signed_value(y, width)


def _common_words(one, other):
    """A list with a word that is in both, empty if there is none."""
    common = one.common_with(other)
    if isinstance(one, Mask):
        return [] if common is None else [common.least]
    return [part.first for part in common]


def _same_verdict(one, other):
    """A verdict on the comparison same."""
    common = _common_words(one, other)
    if len(common) == 0:
        return ("never",)
    if one.extent == 1 and other.extent == 1:
        return ("always",)
    pairs = [(x, y) for x in (one.least, one.greatest) for y in (other.least, other.greatest)]
    unequal = [(x, y) for x, y in pairs if x != y]
    return ("sometimes", (common[0], common[0]), unequal[0])


def find_verdict(word, one, other):
    """A verdict: whether a comparison holds always, never, or sometimes, with words that show this."""
    if one.width != other.width:
        raise UnequalWidths()
    if word == "same":
        return _same_verdict(one, other)
    low, high = _ends_of(word, one)
    other_low, other_high = _ends_of(word, other)
    if _holds(word, one.width, high, other_low):
        return ("always",)
    if not _holds(word, one.width, low, other_high):
        return ("never",)
    return ("sometimes", (low, other_high), (high, other_low))


def _is_pair(one, other, value):
    """Whether any value is a pair of a word of one and a word of the other."""
    return isinstance(value, tuple) and len(value) == 2 and value[0] in one and value[1] in other


def check_verdict(word, one, other, value):
    """Whether any value is a verdict."""
    found = find_verdict(word, one, other)
    if not isinstance(value, tuple):
        return False
    if len(value) != 3 or value[0] != "sometimes":
        return value == found
    if not _is_pair(one, other, value[1]) or not _is_pair(one, other, value[2]):
        return False
    yes, no = value[1], value[2]
    return _holds(word, one.width, yes[0], yes[1]) and not _holds(word, one.width, no[0], no[1])
