"""A console: commands on a store, and their results, as texts."""

from wordsalike.errors import (BadInput, BadStep, Busy, NoSuchProgram, NothingToUndo, TooLarge, TooLong,
                               TooManyActions, UnlikePrograms)
from wordsalike.passes import compare_programs
from wordsalike.programs import run_program
from wordsalike.reading import is_decimal
from wordsalike.stores import item_at
from wordsalike.words import is_input

# Each command, and each query, with the number of integers behind it.
COMMANDS = {"take": 1, "chain": 2, "shorten": 1, "undo": 0, "drop": 2, "same": 4}
QUERIES = {"width": 0, "size": 0, "rows": 0, "run": 5, "steps": 1, "compare": 2}
# The transcript tells so many pairs, the last ones.
PAIRS = 20


def _number_of(word):
    """The integer that a word of a line is, None if it is none."""
    digits = word[1:] if word.startswith("-") else word
    if not is_decimal(digits) or word == "-0":
        return None
    return int(word)


def _words_text(words):
    """Some words with one space between two."""
    return " ".join([str(word) for word in words])


class Console:
    """Executes commands on one store."""

    def __init__(self, store):
        self._store = store
        self._pairs = []

    def execute(self, line):
        """The result of a line, any value."""
        result = self._result_of(line) if isinstance(line, str) else "unknown"
        told = line if isinstance(line, str) else None
        self._pairs = [*self._pairs, (told, result)][-PAIRS:]
        return result

    def transcript(self):
        """The tuple of the last pairs of a line and its result."""
        return tuple(self._pairs)

    def _result_of(self, line):
        """The result of a text."""
        pieces = line.split(" ")
        name = pieces[0]
        numbers = [_number_of(piece) for piece in pieces[1:]]
        if name not in COMMANDS and name not in QUERIES:
            return "unknown"
        many = COMMANDS[name] if name in COMMANDS else QUERIES[name]
        if len(numbers) != many or any([number is None for number in numbers]):
            return "unknown"
        return self._outcome(name, numbers)

    def _outcome(self, name, numbers):
        """The result of a command or query; errors become texts."""
        try:
            return self._performed(name, numbers)
        except Busy:
            return "error Busy"
        except TooManyActions:
            return "error TooManyActions"
        except NothingToUndo:
            return "error NothingToUndo"
        except NoSuchProgram:
            return "error NoSuchProgram"
        except UnlikePrograms:
            return "error UnlikePrograms"
        except BadStep:
            return "error BadStep"
        except BadInput:
            return "error BadInput"
        except TooLarge:
            return "error TooLarge"
        except TooLong:
            return "error TooLong"

    def _performed(self, name, numbers):
        """The result of a command or query that raises no error."""
        if name in QUERIES:
            return self._answer(name, numbers)
        store = self._store
        if name == "take":
            store.take(numbers[0])
        elif name == "chain":
            store.chain(numbers[0], numbers[1])
        elif name == "shorten":
            store.shorten(numbers[0])
        elif name == "undo":
            store.undo()
        elif name == "drop":
            store.step(numbers[0], ("delete", numbers[1]))
        else:
            index, at, place, other = numbers
            store.step(index, ("use", at, place, other, ("same",)))
        return "done"

    def _answer(self, name, numbers):
        """The result of a query."""
        store = self._store
        if name == "width":
            return str(store.width)
        if name == "size":
            return str(len(store.programs))
        if name == "rows":
            return str(store.row_count)
        if name == "steps":
            return str(len(item_at(store.papers, numbers[0])))
        if name == "run":
            return self._run_text(numbers[0], tuple(numbers[1:]))
        return self._compared_text(numbers[0], numbers[1])

    def _run_text(self, index, words):
        """The words of the result of a program."""
        program = item_at(self._store.programs, index)
        if not is_input(words, self._store.width):
            raise BadInput()
        return _words_text(run_program(self._store.width, program, words))

    def _compared_text(self, index, other):
        """The answer when two programs are compared."""
        one = item_at(self._store.programs, index)
        answer = compare_programs(self._store.width, one, item_at(self._store.programs, other))
        if answer[0] == "input":
            return _words_text(("input", *answer[1]))
        return answer[0]
