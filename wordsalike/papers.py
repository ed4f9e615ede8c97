"""Papers: small steps that lead from one program to another one with the same results."""

from wordsalike.bounds import STEPS, WIDE
from wordsalike.errors import BadStep
from wordsalike.reasons import is_reason, leaves_of, reason_holds
from wordsalike.rows import INPUTS, are_values, is_row_form, operands_of, rows_by_value, with_operands
from wordsalike.words import is_integer


def _is_step(width, value):
    """Whether any value is a tuple that can tell a step."""
    if not isinstance(value, tuple) or len(value) < 2 or not is_integer(value[1]):
        return False
    if value[0] == "delete":
        return len(value) == 2
    if value[0] == "insert":
        return len(value) == 3 and is_row_form(value[2], width)
    if value[0] != "use" or len(value) != 5:
        return False
    return is_integer(value[2]) and is_integer(value[3]) and is_reason(value[4])


def _places_of(program, at):
    """The tuple of what stands at the places of a row's value, or of the outs; None if at is neither."""
    rows, outs = program
    many = INPUTS + len(rows)
    if at == many:
        return outs
    return operands_of(rows[at - INPUTS]) if INPUTS <= at < many else None


def _is_placed(program, step):
    """Whether the places and values of a step are there."""
    at = step[1]
    many = INPUTS + len(program[0])
    if step[0] == "insert":
        return INPUTS <= at <= many and are_values(operands_of(step[2]), at)
    if step[0] == "delete":
        return INPUTS <= at < many
    places = _places_of(program, at)
    if places is None or not are_values((step[2],), len(places)):
        return False
    return are_values((step[3],), at) and are_values(leaves_of(step[4]), many)


def _is_used(program, value):
    """Whether a value is an operand or an out."""
    rows, outs = program
    return value in outs or any([value in operands_of(row) for row in rows])


def _moved(values, begin, change):
    """A tuple of some values; those from begin on are changed by a number."""
    return tuple([value + change if value >= begin else value for value in values])


def _moved_rows(rows, begin, change):
    """A tuple of some rows whose operands from begin on are changed by a number."""
    return tuple([with_operands(row, _moved(operands_of(row), begin, change)) for row in rows])


def _with_item(items, index, item):
    """The tuple with another item at an index."""
    return (*items[:index], item, *items[index + 1:])


def _stepped(program, step):
    """The program after a step that can be taken."""
    rows, outs = program
    at = step[1]
    index = at - INPUTS
    if step[0] == "insert":
        return ((*rows[:index], step[2], *_moved_rows(rows[index:], at, 1)), _moved(outs, at, 1))
    if step[0] == "delete":
        return ((*rows[:index], *_moved_rows(rows[index + 1:], at, -1)), _moved(outs, at, -1))
    placed = _with_item(_places_of(program, at), step[2], step[3])
    if index == len(rows):
        return (rows, placed)
    return (_with_item(rows, index, with_operands(rows[index], placed)), outs)


def after_step(width, program, value):
    """The program after a step, any value; raises BadStep if it is none that can be taken."""
    if not _is_step(width, value):
        raise BadStep("step")
    if value[0] == "insert" and len(program[0]) >= WIDE:
        raise BadStep("many")
    if not _is_placed(program, value):
        raise BadStep("place")
    if value[0] == "delete" and _is_used(program, value[1]):
        raise BadStep("used")
    if value[0] == "use":
        stood = _places_of(program, value[1])[value[2]]
        if not reason_holds(width, rows_by_value(program[0]), stood, value[3], value[4]):
            raise BadStep("why")
    return _stepped(program, value)


def check_paper(width, program, value, other):
    """Whether any value is a paper from a program to the other one."""
    if not isinstance(value, tuple) or len(value) > STEPS:
        return False
    for step in value:
        try:
            program = after_step(width, program, step)
        except BadStep:
            return False
    return program == other


def paper_programs(width, program, paper):
    """Yields the program before the first step of a paper, and the one after each step."""
    yield program
    for step in paper:
        program = _stepped(program, step)
        yield program


def _turned_step(program, step):
    """The step that leads back to a program."""
    at = step[1]
    if step[0] == "insert":
        return ("delete", at)
    if step[0] == "delete":
        return ("insert", at, program[0][at - INPUTS])
    return ("use", at, step[2], _places_of(program, at)[step[2]], step[4])


def turned_paper(width, program, paper):
    """The paper from the last program of a paper back to the first one."""
    programs = list(paper_programs(width, program, paper))
    steps = [_turned_step(before, step) for before, step in zip(programs, paper)]
    return tuple(steps[::-1])
