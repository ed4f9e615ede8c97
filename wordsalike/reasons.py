"""The reasons for which two values of a program are equal for each input.

Each function takes the rows by their values (None for the inputs). Most reasons lead from one of
two values to the other one, in either direction.
"""

from wordsalike.classes import Classes
from wordsalike.divisors import is_right
from wordsalike.lanes import mix_words, polynomial_words
from wordsalike.rows import INPUTS, are_same_rows
from wordsalike.rules import number_in, operand_orders, ruled_numbers, ruled_values, worked_number
from wordsalike.words import greatest_word, is_integer, twos_in

# The reasons that are told by their word alone.
BARE_REASONS = ("same", "worked", "rule", "shift", "quotient", "scale")
MOST_LEAVES = 4


def _are_leaves(value):
    """Whether any value is an ascending tuple of 1 to 4 integers."""
    if not isinstance(value, tuple) or not 1 <= len(value) <= MOST_LEAVES:
        return False
    if not all([is_integer(leaf) for leaf in value]):
        return False
    return all([value[at] < value[at + 1] for at in range(len(value) - 1)])


def is_reason(value):
    """Whether any value is a tuple that can tell a reason."""
    if not isinstance(value, tuple) or not 1 <= len(value) <= 2:
        return False
    if len(value) == 1:
        return value[0] in BARE_REASONS
    if value[0] == "mix":
        return _are_leaves(value[1])
    return value[0] == "polynomial" and is_integer(value[1])


def leaves_of(why):
    """The tuple of the leaves that a reason tells."""
    if why[0] == "mix":
        return why[1]
    return (why[1],) if why[0] == "polynomial" else ()


def _are_same(members, one, other):
    """Whether two values are the same one, or have the same row."""
    if one == other:
        return True
    if members[one] is None or members[other] is None:
        return False
    return are_same_rows(members[one], members[other])


def _is_worked(width, members, one, other):
    """Whether working leads from one value to the other one."""
    if members[one] is None:
        return False
    number = worked_number(members[one], members, width)
    return number is not None and number == number_in(members, other)


def _is_class_ruled(width, members, one, other):
    """Whether a rule leads from one class to the other one."""
    row = members[one]
    if row is None:
        return False
    return other in ruled_values(row, members, width) or number_in(members, other) in ruled_numbers(row, members, width)


def _is_ruled(width, members, one, other):
    """Whether a rule leads from one of two values to the other one."""
    classes = Classes()
    found = classes.classes_of(members[INPUTS:max(one, other) + 1])
    if _is_class_ruled(width, classes.members, found[one], found[other]):
        return True
    return _is_class_ruled(width, classes.members, found[other], found[one])


def _power_in(number):
    """The s for which a number is 2 ** s, None if there is none or it is None."""
    if number is None or number == 0 or number & (number - 1) != 0:
        return None
    return twos_in(number)


def _is_masked(members, row, kept, number):
    """Whether a row is the and of a value and a row with this number."""
    if row[0] != "and":
        return False
    return any([one == kept and number_in(members, other) == number for one, other in operand_orders(row)])


def _is_shifted(members, one, other):
    """Whether one multiplies or divides by a power of two, and the other one does it bit by bit."""
    row, shifted = members[one], members[other]
    if row is None or shifted is None:
        return False
    if row[0] == "mul":
        powers = [(kept, _power_in(number_in(members, factor))) for kept, factor in operand_orders(row)]
        return any([power is not None and shifted == ("left", kept, power) for kept, power in powers])
    if row[0] not in ("quo", "rem") or _power_in(row[2]) is None:
        return False
    if row[0] == "quo":
        return shifted == ("right", row[1], _power_in(row[2]))
    return _is_masked(members, shifted, row[1], row[2] - 1)


def _divisor_of(row):
    """The divisor of a row quo or right, None for another row or an input."""
    if row is None or row[0] not in ("quo", "right"):
        return None
    return row[2] if row[0] == "quo" else 1 << row[2]


def _is_one_quotient(width, members, one, other):
    """Whether one divides a quotient, and the other one divides once, by both divisors together."""
    divisor = _divisor_of(members[one])
    if divisor is None:
        return False
    inner = members[members[one][1]]
    if _divisor_of(inner) is None:
        return False
    product = divisor * _divisor_of(inner)
    if product > greatest_word(width):
        return number_in(members, other) == 0
    return _divisor_of(members[other]) == product and members[other][1] == inner[1]


def _is_scaled(width, members, one, other):
    """Whether one is a quotient, and the other one a row scale that tells it for all words."""
    row, scale = members[one], members[other]
    if row is None or scale is None or row[0] != "quo" or scale[0] != "scale" or row[1] != scale[1]:
        return False
    factor, number, shift = scale[2:]
    top = greatest_word(width)
    if number == 0:
        return is_right(row[2], top, (factor, shift))
    return number == factor and is_right(row[2], top, (factor, shift), kind="raised")


def _are_alike(width, members, one, other, why):
    """Whether two values are alike as mixes, or polynomials, over the leaves of a reason."""
    rows = members[INPUTS:]
    if why[0] == "mix":
        found = mix_words(width, rows, (one, other), why[1])
    else:
        found = polynomial_words(width, rows, (one, other), why[1])
    return found is not None and found[0] == found[1]


def _leads(width, members, one, other, word):
    """Whether the reason that a word tells leads from one value to the other one."""
    if word == "worked":
        return _is_worked(width, members, one, other)
    if word == "shift":
        return _is_shifted(members, one, other)
    if word == "quotient":
        return _is_one_quotient(width, members, one, other)
    return _is_scaled(width, members, one, other)


def reason_holds(width, members, one, other, why):
    """Whether a reason holds for two values; its leaves are values."""
    word = why[0]
    if word == "same":
        return _are_same(members, one, other)
    if word == "rule":
        return _is_ruled(width, members, one, other)
    if word in ("mix", "polynomial"):
        return _are_alike(width, members, one, other, why)
    return _leads(width, members, one, other, word) or _leads(width, members, other, one, word)
