"""The words at which a polynomial has the value 0, as classes of words with the same low bits.

A class is split into two as long as it is neither clear that all its words are zeros nor that
none is. After each split the numbers of the polynomial on the class have more factors 2.
"""

from wordsalike.counting import quotient_up
from wordsalike.reduced import is_zero_everywhere
from wordsalike.words import greatest_word, is_integer_within, to_word, twos_in


def _numbers_on(numbers, width, rest, bits):
    """The numbers, as words, of the polynomial in t that comes from x = rest + 2 ** bits * t.

    The zeros at the end are left out.
    """
    found = [to_word(number, width) for number in numbers]
    many = len(found) if bits == 0 else min(len(found), quotient_up(width, bits))
    for place in range(many):
        for above in reversed(range(place, len(found) - 1)):
            found[above] = to_word(found[above] + rest * found[above + 1], width)
    found = [to_word(found[place] << bits * place, width) for place in range(many)]
    while len(found) > 0 and found[-1] == 0:
        found.pop()
    return found


def _is_barren(numbers):
    """Whether words, the numbers of a polynomial in t, show with two values that it has no zero."""
    if len(numbers) == 0 or numbers[0] == 0:
        return False
    twos = twos_in(numbers[0])
    if any([to_word(number, twos) != 0 for number in numbers]):
        return False
    return to_word(sum(numbers), twos + 1) != 0


def _judged_classes(numbers, width):
    """A list of (rest, bits, word) in which each word of the width is in one class.

    No class with the word all is within a greater class of zeros.
    """
    found = []
    waiting = [(0, 0, _numbers_on(numbers, width, 0, 0))]
    while len(waiting) > 0:
        rest, bits, own = waiting.pop()
        if is_zero_everywhere(own, width):
            found.append((rest, bits, "all"))
        elif _is_barren(own):
            found.append((rest, bits, "none"))
        else:
            for bit in (0, 1):
                waiting.append((rest + (bit << bits), bits + 1, _numbers_on(own, width, bit, 1)))
    return found


def zero_classes(numbers, width):
    """The ascending tuple of the greatest classes of zeros."""
    judged = _judged_classes(numbers, width)
    return tuple(sorted([(rest, bits) for rest, bits, word in judged if word == "all"]))


def count_zeros(numbers, width):
    """The number of the zeros."""
    return sum([1 << (width - bits) for _, bits in zero_classes(numbers, width)])


def each_zero(numbers, width, *, start=0):
    """Yields the zeros from start on, in ascending order."""
    classes = zero_classes(numbers, width)
    low = start
    while True:
        ahead = [rest + (quotient_up(low - rest, 1 << bits) << bits) for rest, bits in classes]
        zero = min(ahead, default=1 << width)
        if zero > greatest_word(width):
            return
        yield zero
        low = zero + 1


def zero_paper(numbers, width):
    """An ascending tuple of classes that tells of each word whether it is a zero."""
    return tuple(sorted(_judged_classes(numbers, width)))


def _is_judged_class(value, width):
    """Whether any value is a tuple (rest, bits, word) of a class and one of the two words."""
    if not isinstance(value, tuple) or len(value) != 3:
        return False
    rest, bits, word = value
    if not is_integer_within(bits, 0, width) or not is_integer_within(rest, 0, greatest_word(bits)):
        return False
    return word in ("all", "none")


def _share_all_words(width, classes):
    """Whether each word of the width is in exactly one of some classes."""
    known = {(rest, bits): True for rest, bits, _ in classes}
    for rest, bits, _ in classes:
        if any([(to_word(rest, fewer), fewer) in known for fewer in range(bits)]):
            return False
    # Classes that are not within one another have no word in common.
    return len(known) == len(classes) and sum([1 << (width - bits) for _, bits in known]) == 1 << width


def _is_judged_right(numbers, width, judged):
    """Whether the word of a class is true of it."""
    rest, bits, word = judged
    own = _numbers_on(numbers, width, rest, bits)
    if word == "all":
        return is_zero_everywhere(own, width)
    return _is_barren(own)


def check_zeros(numbers, width, value):
    """Whether any value is a tuple as zero_paper returns it."""
    if not isinstance(value, tuple) or not all([_is_judged_class(part, width) for part in value]):
        return False
    if any([value[at] >= value[at + 1] for at in range(len(value) - 1)]):
        return False
    if not _share_all_words(width, value):
        return False
    return all([_is_judged_right(numbers, width, part) for part in value])
