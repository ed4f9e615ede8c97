"""Stores: programs that are kept under actions which can be undone."""

from wordsalike.bounds import BATCH, ROWS, SLOTS, STEPS
from wordsalike.errors import (BadInput, BadProgram, BadWidth, BatchFailed, Busy, InvalidBatch, NoSuchProgram,
                               NoSuchStep, NothingToUndo, TooLarge, TooLong, TooMany, TooManyActions, WordError)
from wordsalike.papers import after_step
from wordsalike.passes import short_paper, short_program
from wordsalike.programs import Program, program_fault, run_program
from wordsalike.texts import parse_program
from wordsalike.words import is_input, is_integer_within, is_width

# Each action, with the number of its arguments.
ARGUMENT_COUNTS = {"put": 1, "take": 1, "chain": 2, "step": 2, "shorten": 1}
# The log tells so many rows, the last ones.
LOG_ROWS = 10


def argument_count(name):
    """The number of arguments of the action with any value as its name, None if there is none."""
    if not isinstance(name, str) or name not in ARGUMENT_COUNTS:
        return None
    return ARGUMENT_COUNTS[name]


def item_at(items, index):
    """The item for the program with an index, any value; raises NoSuchProgram."""
    if not is_integer_within(index, 0, len(items) - 1):
        raise NoSuchProgram(index)
    return items[index]


def _with_item(items, index, item):
    """The tuple with another item at an index."""
    return (*items[:index], item, *items[index + 1:])


def _without_item(items, index):
    """The tuple without the item at an index."""
    return (*items[:index], *items[index + 1:])


def rows_together(programs):
    """The number of rows of all programs together."""
    return sum([len(rows) for rows, _ in programs])


def _require_program(width, value):
    """Raises an error if any value is not a program of a width."""
    fault = program_fault(width, value)
    if fault is not None:
        raise BadProgram(fault)


def _is_action(value):
    """Whether any value is a tuple of the name of an action and as many arguments as it takes."""
    return isinstance(value, tuple) and len(value) > 0 and argument_count(value[0]) == len(value) - 1


def _actions_of(batch):
    """A list of the actions of any value as a batch; raises InvalidBatch."""
    if not isinstance(batch, (list, tuple)) or len(batch) > BATCH:
        raise InvalidBatch()
    if not all([_is_action(action) for action in batch]):
        raise InvalidBatch()
    return list(batch)


class Store:
    """Programs of one width with their papers, and the actions that led to them.

    A state is a pair of tuples, programs and papers; one is kept from before the first action,
    and one from behind each action.
    """

    LIMIT = 60

    def __init__(self, width, *programs):
        if not is_width(width):
            raise BadWidth(width)
        if len(programs) > SLOTS:
            raise TooMany(SLOTS)
        for program in programs:
            _require_program(width, program)
        self._width = width
        self._most = None
        self._states = ((programs, tuple([() for _ in programs])),)
        self._kept = ()
        self._log_rows = []
        self._is_busy = False

    @classmethod
    def read(cls, value):
        """A store with the one program whose text any value is."""
        width, program = parse_program(value)
        return cls(width, program)

    @classmethod
    def blank(cls, width):
        """A store without programs."""
        return cls(width)

    @staticmethod
    def size_of(name):
        """The number of arguments of the action with a name, any value; None if there is none."""
        return argument_count(name)

    @property
    def width(self):
        """The width of the programs."""
        return self._width

    @property
    def programs(self):
        """The tuple of the programs."""
        return self._states[-1][0]

    @property
    def papers(self):
        """The tuple of the papers, one for each program."""
        return self._states[-1][1]

    @property
    def row_count(self):
        """The number of rows of all programs together."""
        return rows_together(self._states[-1][0])

    def actions(self):
        """The tuple of the actions that are kept."""
        return self._kept

    def state_at(self, step):
        """The tuple of the programs after the first so many kept actions."""
        if not is_integer_within(step, 0, len(self._kept)):
            raise NoSuchStep(step)
        return self._states[step][0]

    def walk(self, words):
        """Yields the result of each program for an input."""
        if not is_input(words, self._width):
            raise BadInput()
        for program in self._states[-1][0]:
            yield run_program(self._width, program, words)

    def log(self):
        """The tuple of the last rows about the runs of batches."""
        return tuple(self._log_rows[-LOG_ROWS:])

    def put(self, program):
        """Adds a program behind the others."""
        self._require_free()
        self._perform(("put", program))

    def take(self, index):
        """Removes a program."""
        self._require_free()
        self._perform(("take", index))

    def chain(self, index, other):
        """Puts another program behind one."""
        self._require_free()
        self._perform(("chain", index, other))

    def step(self, index, value):
        """Takes a step from a program to another one."""
        self._require_free()
        self._perform(("step", index, value))

    def shorten(self, index):
        """Puts the short program in the place of a program."""
        self._require_free()
        self._perform(("shorten", index))

    def undo(self):
        """Reverts the last action that is kept."""
        self._require_free()
        if len(self._kept) == 0:
            raise NothingToUndo()
        self._kept = self._kept[:-1]
        self._states = self._states[:-1]

    def run(self, batch, *, on_step=None):
        """Performs all actions of a batch, or none."""
        self._require_free()
        actions = _actions_of(batch)
        states, kept = self._states, self._kept
        self._log_rows = [*self._log_rows[-LOG_ROWS:], ("begin", len(actions))]
        self._is_busy = True
        done = None
        try:
            self._perform_all(actions, on_step)
            done = len(actions)
        finally:
            self._is_busy = False
            if done is None:
                self._states = states
                self._kept = kept
                done = 0
            self._log_rows.append(("end", done))

    def _require_free(self):
        """Raises an error within a batch of this store."""
        if self._is_busy:
            raise Busy()

    def _perform_all(self, actions, on_step):
        """Performs the actions of a batch, one after another."""
        for index, action in enumerate(actions):
            try:
                self._perform(action)
            except (WordError, NoSuchProgram):
                raise BatchFailed(index) from None
            if on_step is not None:
                on_step(self)

    def _perform(self, action):
        """Performs and keeps an action."""
        if len(self._kept) >= self.LIMIT:
            raise TooManyActions()
        state = self._state_after(action)
        self._require_size(state[0])
        self._states = (*self._states, state)
        self._kept = (*self._kept, action)

    def _require_size(self, programs):
        """Raises an error if programs have more rows together than the bound."""
        size = rows_together(programs)
        if self._most is not None and size > self._most:
            raise TooLong(size)

    def _state_after(self, action):
        """The state after an action."""
        name = action[0]
        if name == "put":
            return self._after_put(action[1])
        if name == "take":
            return self._after_take(action[1])
        if name == "chain":
            return self._after_chain(action[1], action[2])
        if name == "step":
            return self._after_step(action[1], action[2])
        return self._after_shorten(action[1])

    def _after_put(self, program):
        """The state with another program."""
        programs, papers = self._states[-1]
        _require_program(self._width, program)
        if len(programs) >= SLOTS:
            raise TooMany(SLOTS)
        return ((*programs, program), (*papers, ()))

    def _after_take(self, index):
        """The state without a program."""
        programs, papers = self._states[-1]
        item_at(programs, index)
        return (_without_item(programs, index), _without_item(papers, index))

    def _after_chain(self, index, other):
        """The state with another program behind one."""
        programs, papers = self._states[-1]
        one = Program(self._width, item_at(programs, index))
        chained = one >> Program(self._width, item_at(programs, other))
        return (_with_item(programs, index, (chained.rows, chained.last)), _with_item(papers, index, ()))

    def _with_steps(self, index, program, steps):
        """The state with a program, to which steps lead, in the place of one."""
        programs, papers = self._states[-1]
        paper = (*papers[index], *steps)
        if len(paper) > STEPS:
            raise TooLarge(STEPS)
        return (_with_item(programs, index, program), _with_item(papers, index, paper))

    def _after_step(self, index, value):
        """The state with a program after a step."""
        program = after_step(self._width, item_at(self._states[-1][0], index), value)
        if len(program[0]) > ROWS:
            raise TooLarge(ROWS)
        return self._with_steps(index, program, (value,))

    def _after_shorten(self, index):
        """The state with the short program in the place of a program."""
        program = item_at(self._states[-1][0], index)
        steps = short_paper(self._width, program)
        return self._with_steps(index, short_program(self._width, program), steps)

    def copy(self):
        """An equal store of the same class with the same kept actions."""
        other = self.blank(self._width)
        other._most = self._most
        other._states = self._states
        other._kept = self._kept
        return other

    def __len__(self):
        return len(self._kept)

    def __eq__(self, other):
        return (isinstance(other, Store) and self._width == other._width and self.programs == other.programs
                and isinstance(self, ShortStore) == isinstance(other, ShortStore) and self._most == other._most)

    def __str__(self):
        return f"width {self._width}, {len(self.programs)} programs, {self.row_count} rows, {len(self)} actions"


class ShortStore(Store):
    """A store with a bound for the number of rows of all programs together, or None."""

    def __init__(self, width, *programs, most=None):
        super().__init__(width, *programs)
        self._most = most
        self._require_size(programs)
