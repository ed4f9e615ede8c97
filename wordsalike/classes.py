"""The classes of the values of programs.

Each class has a number, in the order in which they are met; the inputs are the first ones. The
row of a class is any row in it, with the numbers of classes for operands.
"""

from wordsalike.rows import EVEN, INPUTS, OPERAND_COUNTS, numbers_of, operands_of, with_operands


class Classes:
    """The row of each class, None for the inputs."""

    def __init__(self):
        self.members = [None for _ in range(INPUTS)]
        self._known = {}

    def class_of(self, row):
        """The class of a row with the numbers of classes for operands."""
        if row[0] in EVEN:
            row = with_operands(row, sorted(list(operands_of(row))))
        if row not in self._known:
            self._known[row] = len(self.members)
            self.members.append(row)
        return self._known[row]

    def classes_of(self, rows):
        """A list with the class of each value of a program with these rows."""
        found = list(range(INPUTS))
        for row in rows:
            found.append(self.class_of(with_operands(row, [found[operand] for operand in operands_of(row)])))
        return found


def _heights(members):
    """A list of the heights of classes."""
    found = []
    for row in members:
        operands = () if row is None else operands_of(row)
        found.append(1 + max([found[operand] for operand in operands], default=-1))
    return found


def _ranked_operands(row, ranks):
    """A tuple of the ranks of the operands of a row, in even rows the lesser one first."""
    operands = [ranks[operand] for operand in operands_of(row)]
    return tuple(sorted(operands)) if row[0] in EVEN else tuple(operands)


def _key_of(row, ranks):
    """What orders the rows of one height, if the ranks of their operands are known."""
    return (list(OPERAND_COUNTS).index(row[0]), numbers_of(row), _ranked_operands(row, ranks))


def class_ranks(members, wanted):
    """A dict from the classes of the inputs, and from the wanted classes of rows, to their ranks.

    The operands of the wanted ones are inputs or wanted.
    """
    heights = _heights(members)
    levels = {}
    for at in wanted:
        levels.setdefault(heights[at], []).append(at)
    ranks = {at: at for at in range(INPUTS)}
    for height in sorted(list(levels)):
        for _, at in sorted([(_key_of(members[at], ranks), at) for at in levels[height]]):
            ranks[at] = len(ranks)
    return ranks


def _used_classes(members, outs):
    """A list of the classes of rows that are outs, or operands of used ones."""
    used = {out: True for out in outs}
    for at in reversed(range(INPUTS, len(members))):
        if at in used:
            for operand in operands_of(members[at]):
                used[operand] = True
    return [at for at in range(INPUTS, len(members)) if at in used]


def used_ranks(members, outs):
    """The ranks of the inputs and the used classes: their values in the folded program."""
    return class_ranks(members, _used_classes(members, outs))


def folded(members, outs):
    """The folded program of programs with these classes as outs."""
    ranks = used_ranks(members, outs)
    ordered = sorted([(rank, at) for at, rank in ranks.items() if at >= INPUTS])
    rows = [with_operands(members[at], _ranked_operands(members[at], ranks)) for _, at in ordered]
    return (tuple(rows), tuple([ranks[out] for out in outs]))
