"""Short programs, the papers that lead to them, and programs compared by them."""

from wordsalike.classes import Classes, folded, used_ranks
from wordsalike.errors import UnlikePrograms
from wordsalike.lanes import mix_words, polynomial_words
from wordsalike.mixforms import PATTERNS, pattern_input
from wordsalike.papers import turned_paper
from wordsalike.reduced import place_limit
from wordsalike.rows import INPUTS, operands_of, with_operands
from wordsalike.rules import ruled_numbers, ruled_values, worked_number
from wordsalike.running import result_for
from wordsalike.words import greatest_word


def _normal_form(row, classes, width):
    """The class to which a row over normal forms leads, and the word of the reason."""
    number = worked_number(row, classes.members, width)
    if number is not None:
        return (classes.class_of(("number", number)), "worked")
    values = ruled_values(row, classes.members, width)
    if len(values) > 0:
        return (values[0], "rule")
    numbers = ruled_numbers(row, classes.members, width)
    if len(numbers) > 0:
        return (classes.class_of(("number", numbers[0])), "rule")
    return (classes.class_of(row), "same")


def _normal_forms(width, rows):
    """The classes of normal forms, and a list with the (class, word of the reason) of each value.

    The operands of each row are normal forms already, so that one rule at most is left for it.
    """
    classes = Classes()
    forms = [(at, "same") for at in range(INPUTS)]
    for row in rows:
        operands = [forms[operand][0] for operand in operands_of(row)]
        forms.append(_normal_form(with_operands(row, operands), classes, width))
    return (classes, forms)


def short_program(width, program):
    """The program that remains when rules and working have been used as long as one can be."""
    rows, outs = program
    classes, forms = _normal_forms(width, rows)
    return folded(classes.members, [forms[out][0] for out in outs])


def _new_numbers(classes, forms, rows, ranks):
    """A list of the classes of numbers that come of rows without number, and are not used at last."""
    found = {}
    for (at, _), row in zip(forms[INPUTS:], rows):
        member = classes.members[at]
        if row[0] != "number" and at not in ranks and member is not None and member[0] == "number":
            found[at] = True
    return list(found)


def _uses_at(at, values, own, forms, holders):
    """A list of the steps that put what holds the normal forms at the places of some operands or outs."""
    steps = []
    for place, value in enumerate(values):
        form, reason = forms[value]
        if own[value] != holders[form]:
            steps.append(("use", at, place, holders[form], (reason,)))
    return steps


def _uses(program, base, forms, holders):
    """A list of the steps that put what holds the normal forms in the place of all operands and outs.

    The first row of the program is at base; holders tells which value holds a form.
    """
    rows, outs = program
    own = list(range(INPUTS)) + list(range(base, base + len(rows)))
    known = {form: holders[form] for form in holders}
    steps = []
    for index, row in enumerate(rows):
        steps.extend(_uses_at(base + index, operands_of(row), own, forms, known))
        # A form that is not used at last is held by the first row that has it.
        known.setdefault(forms[INPUTS + index][0], base + index)
    steps.extend(_uses_at(base + len(rows), outs, own, forms, known))
    return steps


def short_paper(width, program):
    """A paper from a program to its short program.

    The rows of the short program come first, then numbers that are used on the way; then each row
    gets them for operands, at last the outs, and the rows of the program are left over.
    """
    rows, outs = program
    short = short_program(width, program)
    if short == program:
        return ()
    classes, forms = _normal_forms(width, rows)
    holders = used_ranks(classes.members, [forms[out][0] for out in outs])
    inserted = list(short[0])
    new_numbers = _new_numbers(classes, forms, rows, holders)
    for at in new_numbers:
        holders[at] = INPUTS + len(inserted)
        inserted.append(classes.members[at])
    base = INPUTS + len(inserted)
    steps = [("insert", INPUTS + index, row) for index, row in enumerate(inserted)]
    steps.extend(_uses(program, base, forms, holders))
    left_over = list(range(INPUTS + len(short[0]), base + len(rows)))
    steps.extend([("delete", value) for value in left_over[::-1]])
    return tuple(steps)


def _joint_paper(short, other, why):
    """A paper from one program to another one whose outs are equal for a reason."""
    many = len(other[0])
    steps = [("insert", INPUTS + index, row) for index, row in enumerate(other[0])]
    end = INPUTS + many + len(short[0])
    steps.extend([("use", end, place, out, why) for place, out in enumerate(other[1])])
    steps.extend([("delete", value) for value in reversed(range(INPUTS + many, end))])
    return tuple(steps)


def _whole_paper(width, program, other, between):
    """The paper that leads over both short programs, with a paper between these."""
    back = turned_paper(width, other, short_paper(width, other))
    return ("paper", (*short_paper(width, program), *between, *back))


def _special_inputs(width):
    """A list of the inputs that are tried first."""
    words = [greatest_word(width), *[1 << bit for bit in range(width)]]
    found = [pattern_input(pattern, word) for word in words for pattern in range(1, PATTERNS)]
    return [pattern_input(0, 0), *found]


def _first_difference(width, one, other, inputs):
    """The first of some inputs for which the results of two programs differ, None if there is none."""
    for words in inputs:
        if result_for(width, one, words) != result_for(width, other, words):
            return words
    return None


def _inputs_used(program):
    """An ascending list of the inputs that are operands or outs."""
    rows, outs = program
    values = [value for row in rows for value in operands_of(row)]
    return sorted(set([value for value in (*values, *outs) if value < INPUTS]))


def _reason_words(width, one, other):
    """A reason for which the outs of two short programs may be equal, and what their outs are for it.

    It is None if they are neither mixes nor polynomials in one input.
    """
    leaves = tuple(range(INPUTS))
    words = [mix_words(width, rows, outs, leaves) for rows, outs in (one, other)]
    if words[0] is not None and words[1] is not None:
        return (("mix", leaves), words)
    used = sorted(set([*_inputs_used(one), *_inputs_used(other)]))
    if len(used) != 1:
        return None
    words = [polynomial_words(width, rows, outs, used[0]) for rows, outs in (one, other)]
    if words[0] is None or words[1] is None:
        return None
    return (("polynomial", used[0]), words)


def compare_programs(width, program, other):
    """A paper from a program to the other one, an input for which they differ, or ("open",)."""
    if len(program[1]) != len(other[1]):
        raise UnlikePrograms()
    one, another = short_program(width, program), short_program(width, other)
    if one == another:
        return _whole_paper(width, program, other, ())
    found = _reason_words(width, one, another)
    if found is not None and found[1][0] == found[1][1]:
        return _whole_paper(width, program, other, _joint_paper(one, another, found[0]))
    inputs = _special_inputs(width)
    if found is not None and found[0][0] == "polynomial":
        # Polynomials that are not alike differ at one of so many words.
        inputs.extend([pattern_input(1 << found[0][1], word) for word in range(place_limit(width))])
    words = _first_difference(width, one, another, inputs)
    return ("open",) if words is None else ("input", words)
