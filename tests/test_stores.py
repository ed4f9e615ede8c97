"""[81] to [85], [88] to [92] Stores: actions, undo, queries, bounds, copies."""

import itertools
import unittest

from tests.helpers import Other, odd_values, some_random
from tests.slow_programs import random_program, slow_result
from wordsalike.errors import (BadInput, BadProgram, BadStep, BadWidth, NoSuchProgram, NoSuchStep, NothingToUndo,
                               ParseError, TooLarge, TooLong, TooMany, TooManyActions, UnlikePrograms)
from wordsalike.papers import after_step, check_paper
from wordsalike.passes import short_paper, short_program
from wordsalike.programs import Program, program_fault
from wordsalike.stores import ShortStore, Store
from wordsalike.texts import format_program

A = ((("number", 3), ("mul", 0, 4), ("number", 4), ("mul", 5, 6), ("mul", 4, 0), ("sub", 7, 8)), (9,))
N = ((("neg", 0),), (4,))
E = ((), (0,))
LONG = (tuple(("neg", 3 + k if k else 0) for k in range(60)), (63,))
ACTIONS = {"put": 1, "take": 1, "chain": 2, "step": 2, "shorten": 1}


def told(store):
    """All that a store answers."""
    many = len(store)
    return (store.width, store.programs, store.papers, store.row_count, store.actions(), many, str(store), store.log(),
            tuple(store.state_at(step) for step in range(many + 1)), store.LIMIT)


def act(store, action):
    """Performs an action; returns the kind of its error and its fields, None if there is none."""
    try:
        result = getattr(store, action[0])(*action[1:])
    except Exception as error:
        return (type(error), tuple(vars(error).values()))
    assert result is None
    return None


class SlowStore:
    """A store by the words of the document."""

    def __init__(self, width, programs, most=None):
        self.width, self.most = width, most
        self.states = [[(program, ()) for program in programs]]
        self.kept = []

    def act(self, action):
        if len(self.kept) == 60:
            return (TooManyActions, ())
        found = self.after([*self.states[-1]], *action)
        if isinstance(found, tuple):
            return found
        size = sum(len(program[0]) for program, _ in found)
        if self.most is not None and size > self.most:
            return (TooLong, (size,))
        self.states.append(found)
        self.kept.append(action)
        return None

    def undo(self):
        if not self.kept:
            return (NothingToUndo, ())
        self.kept.pop()
        self.states.pop()
        return None

    def is_index(self, value):
        return type(value) is int and 0 <= value < len(self.states[-1])

    def after(self, state, name, index, other=None):
        """The state after an action, or its error."""
        if name == "put":
            fault = program_fault(self.width, index)
            if fault is not None:
                return (BadProgram, (fault,))
            return (TooMany, (10,)) if len(state) == 10 else [*state, (index, ())]
        if not self.is_index(index):
            return (NoSuchProgram, (index,))
        if name == "chain" and not self.is_index(other):
            return (NoSuchProgram, (other,))
        program, paper = state[index]
        if name == "take":
            del state[index]
            return state
        try:
            if name == "chain":
                found = Program(self.width, program) >> Program(self.width, state[other][0])
                program, paper = (found.rows, found.last), ()
            elif name == "step":
                program, paper = after_step(self.width, program, other), (*paper, other)
            else:
                program, paper = short_program(self.width, program), (*paper, *short_paper(self.width, program))
        except (UnlikePrograms, TooLarge, BadStep) as error:
            return (type(error), tuple(vars(error).values()))
        if len(program[0]) > 60:
            return (TooLarge, (60,))
        if len(paper) > 1000:
            return (TooLarge, (1000,))
        state[index] = (program, paper)
        return state

    def check(self, test, store):
        state = self.states[-1]
        test.assertEqual(store.programs, tuple(program for program, _ in state))
        test.assertEqual(store.papers, tuple(paper for _, paper in state))
        test.assertEqual(store.row_count, sum(len(program[0]) for program, _ in state))
        test.assertEqual((store.actions(), len(store)), (tuple(self.kept), len(self.kept)))
        for step, at in enumerate(self.states):
            test.assertEqual(store.state_at(step), tuple(program for program, _ in at))
        text = f"width {self.width}, {len(state)} programs, {store.row_count} rows, {len(self.kept)} actions"
        test.assertEqual(str(store), text)


def random_action(rng, width, many):
    """An action, of which some raise errors."""
    index = rng.choice((-1, 0, 0, 1, 2, many - 1, many, rng.randrange(many + 1)))
    name = rng.choice(("put", "put", "take", "chain", "step", "step", "shorten"))
    if name == "put":
        return (name, rng.choice((N, E, A, None, random_program(rng, width, rng.randrange(6)), (N[0], (9,)))))
    if name in ("take", "shorten"):
        return (name, index)
    if name == "chain":
        return (name, index, rng.randrange(-1, many + 2))
    at = rng.randrange(4, 10)
    step = rng.choice((("insert", at, ("number", 1)), ("insert", 4, ("xor", 0, 1)), ("delete", at), ("delete", 4), None,
                       ("use", at, 0, rng.randrange(6), ("same",)), ("use", at, 0, rng.randrange(6), ("rule",)),
                       ("use", at, rng.randrange(2), rng.randrange(8), ("mix", (0, 1, 2, 3)))))
    return (name, index, step)


class ConstructorTests(unittest.TestCase):
    def test_examples(self):
        with self.assertRaises(BadWidth) as caught:
            Store(0)
        self.assertEqual(caught.exception.value, 0)

    def test_errors_in_their_order(self):
        for kind in (Store, ShortStore):
            for value in [*odd_values(), Other(), 0, 65, N, Store(8)]:
                with self.assertRaises(BadWidth) as caught:
                    kind(value, *[value] * 11)
                self.assertIs(caught.exception.value, value)
                if type(value) is not tuple or value != N:
                    with self.assertRaises(BadProgram) as caught:
                        kind(8, N, value)
                    self.assertEqual(caught.exception.fault, program_fault(8, value))
            with self.assertRaises(TooMany) as caught:
                kind(8, *[None] * 11)
            self.assertEqual(caught.exception.limit, 10)
            with self.assertRaises(BadProgram) as caught:
                kind(2, N, A, None)
            self.assertEqual(caught.exception.fault, (2, "row"))
            self.assertEqual(len(kind(64, *[LONG] * 10).programs), 10)

    def test_new_stores(self):
        for width, programs in ((8, ()), (1, (N,)), (64, (A, N, E) * 3), (8, (LONG,) * 10)):
            store = Store(width, *programs)
            self.assertEqual((store.width, store.programs, store.papers), (width, programs, ((),) * len(programs)))
            self.assertEqual((store.row_count, store.actions(), store.log()), (sum(len(p[0]) for p in programs), (), ()))
            self.assertEqual((store.state_at(0), len(store), Store.LIMIT, store.LIMIT), (programs, 0, 60, 60))


class ActionTests(unittest.TestCase):
    def test_examples(self):
        store = Store(8, N)
        store.chain(0, 0)
        self.assertEqual(store.programs[0], ((("neg", 0), ("neg", 4)), (5,)))
        store.shorten(0)
        self.assertEqual(store.programs[0], ((), (0,)))
        self.assertEqual(act(Store(8), ("undo",)), (NothingToUndo, ()))
        store = Store(8, N)
        self.assertEqual((store.row_count, store.papers, store.state_at(0) == store.programs), (1, ((),), True))
        self.assertEqual(list(Store(8, N).walk((3, 0, 0, 0))), [(253,)])
        self.assertEqual((Store.size_of("step"), Store.size_of("undo"), Store.blank(3).programs), (2, None, ()))
        self.assertEqual((str(Store(8, N)), Store(8, N) == ShortStore(8, N)),
                         ("width 8, 1 programs, 1 rows, 0 actions", False))

    def test_random_actions(self):
        rng = some_random(81)
        seen = set()
        for _ in range(120):
            width = rng.choice((1, 2, 8, 64))
            programs = tuple(random_program(rng, width, rng.randrange(6)) for _ in range(rng.randrange(4)))
            most = rng.choice((None, None, sum(len(p[0]) for p in programs) + rng.randrange(10)))
            store = Store(width, *programs) if most is None else ShortStore(width, *programs, most=most)
            slow = SlowStore(width, programs, most)
            firsts = [(told(store), [*slow.states], [*slow.kept])]
            for _ in range(rng.choice((10, 30, 250))):
                before = told(store)
                action = random_action(rng, width, len(store.programs)) if rng.random() < 0.85 else ("undo",)
                found = act(store, action)
                self.assertEqual(found, slow.undo() if action == ("undo",) else slow.act(action), action)
                seen.add(found and found[0])
                if found is not None:
                    self.assertEqual(told(store), before)
                slow.check(self, store)
            while len(store) > 0:
                self.assertIsNone(store.undo())
                slow.undo()
                slow.check(self, store)
            self.assertEqual(told(store), firsts[0][0])
        expected = {None, NothingToUndo, BadProgram, NoSuchProgram, UnlikePrograms, BadStep, TooLong, TooManyActions}
        self.assertLessEqual(expected, seen)

    def test_papers_lead_from_the_programs_as_they_were_put_in(self):
        rng = some_random(82)
        for _ in range(40):
            program = random_program(rng, 8, 6)
            store = Store(8, program)
            for _ in range(12):
                act(store, rng.choice((("shorten", 0), random_action(rng, 8, 1))) if rng.random() < 2 else None)
                if any(action[0] in ("take", "put", "chain") for action in store.actions()):
                    store.undo()
            self.assertIs(check_paper(8, program, store.papers[0], store.programs[0]), True)

    def test_values_of_all_kinds(self):
        store = Store(8, N, A)
        before = told(store)
        for value in [*odd_values(), Other(), -1, 2, True, False, "0", store, Program(8, N), 10 ** 399]:
            for action in (("take", value), ("shorten", value), ("chain", value, value), ("chain", value, 0), ("step", value, value),
                           ("chain", 0, value), ("step", value, ("delete", 4))):
                kind, fields = act(store, action)
                self.assertEqual(kind, NoSuchProgram)
                self.assertIs(fields[0], value)
            self.assertEqual(act(store, ("put", value)), (BadProgram, (program_fault(8, value),)))
            self.assertEqual(act(store, ("step", 0, value)), (BadStep, ("step",)))
        self.assertEqual(told(store), before)

    def test_errors_in_their_order(self):
        full = Store(8, *[N] * 9, LONG)
        for action, expected in ((("put", None), (BadProgram, ((None, "program"),))), (("put", N), (TooMany, (10,))),
                                 (("chain", 9, 9), (TooLarge, (60,))), (("chain", 10, 11), (NoSuchProgram, (10,))),
                                 (("chain", 9, 11), (NoSuchProgram, (11,))), (("step", 10, None), (NoSuchProgram, (10,))),
                                 (("step", 9, ("insert", 4, ("number", 999))), (BadStep, ("step",))),
                                 (("step", 9, ("insert", 4, ("number", 9))), (TooLarge, (60,)))):
            self.assertEqual(act(full, action), expected, action)
        one, two = ((("neg", 0),), (4,)), ((("add", 0, 1),), (4,))
        store = Store(8, one, two, LONG, (LONG[0][:59] + (("add", 62, 1),), (63,)))
        self.assertEqual(act(store, ("chain", 0, 1)), (UnlikePrograms, ()))
        self.assertEqual(act(store, ("chain", 2, 3)), (UnlikePrograms, ()))
        self.assertEqual(act(store, ("chain", 2, 0)), (TooLarge, (60,)))
        self.assertIsNone(act(store, ("chain", 1, 0)))
        self.assertEqual(store.programs[1], ((("add", 0, 1), ("neg", 4)), (5,)))

    def test_take_moves_those_behind(self):
        store = Store(8, N, A, E)
        store.shorten(1)
        store.step(2, ("insert", 4, ("number", 1)))
        programs, papers = store.programs, store.papers
        store.take(0)
        self.assertEqual((store.programs, store.papers), (programs[1:], papers[1:]))
        store.take(1)
        self.assertEqual((store.programs, store.papers), (programs[1:2], papers[1:2]))

    def test_chain_clears_the_paper(self):
        store = Store(8, A, N)
        store.shorten(0)
        self.assertNotEqual(store.papers[0], ())
        store.chain(0, 1)
        self.assertEqual(store.papers, ((), ()))
        store.undo()
        self.assertNotEqual(store.papers[0], ())
        store.chain(1, 1)
        self.assertNotEqual(store.papers[0], ())

    def test_long_papers(self):
        # A row that is not used makes a program that is not short, and its paper goes over all rows.
        program = (tuple(("add", 3 + k if k else 0, 3 + k if k else 0) for k in range(59)), (62, 62, 62, 62))
        store = Store(8, program)
        insert = ("insert", 4, ("number", 1))
        lengths = []
        while True:
            store.step(0, insert)
            lengths.append(len(store.papers[0]))
            more = len(short_paper(8, store.programs[0]))
            before = told(store)
            if lengths[-1] + more > 1000:
                break
            store.shorten(0)
            self.assertEqual((store.programs, len(store.papers[0])), ((program,), lengths[-1] + more))
            self.assertIs(check_paper(8, program, store.papers[0], program), True)
        self.assertEqual(act(store, ("shorten", 0)), (TooLarge, (1000,)))
        self.assertEqual(told(store), before)
        # No paper of at most 600 steps has been refused.
        self.assertGreater(lengths[-1], 600)
        while len(store.papers[0]) < 1000:
            self.assertIsNone(act(store, ("step", 0, insert if len(store.programs[0][0]) < 60 else ("delete", 4))))
        self.assertLess(len(store), 60)
        self.assertIs(check_paper(8, program, store.papers[0], store.programs[0]), True)
        before = told(store)
        full = len(store.programs[0][0]) == 60
        self.assertEqual(act(store, ("step", 0, ("delete", 4) if full else insert)), (TooLarge, (1000,)))
        self.assertEqual(act(store, ("step", 0, None)), (BadStep, ("step",)))
        if full:
            self.assertEqual(act(store, ("step", 0, insert)), (TooLarge, (60,)))
        self.assertEqual(told(store), before)
        # A paper of no steps can be added still, of more steps not.
        self.assertEqual(act(store, ("shorten", 0)), (TooLarge, (1000,)) if full else None)

    def test_papers_of_many_actions(self):
        # Picks that all change: a paper of some hundred steps each time, until it would be too long.
        rows = [("same", 0, 0), ("add", 4, 4)]
        while len(rows) < 60:
            rows.append(("pick", 3 + len(rows), 2 + len(rows), 3 + len(rows)) if len(rows) % 3 else ("mul", 5, 3 + len(rows)))
        program = (tuple(rows), (63, 62, 61, 60))
        store = Store(64, program)
        store.shorten(0)
        self.assertTrue(100 < len(store.papers[0]) <= 400)
        self.assertIs(check_paper(64, program, store.papers[0], store.programs[0]), True)

    def test_sixty_kept_actions(self):
        store = Store(8, N)
        for _ in range(30):
            self.assertIsNone(act(store, ("put", E)))
            self.assertIsNone(act(store, ("take", 1)))
        before = told(store)
        self.assertEqual(len(store), 60)
        for action in (("put", N), ("put", None), ("take", 0), ("take", None), ("chain", 0, 0), ("chain", None, None),
                       ("step", 0, None), ("step", 9, None), ("shorten", 0), ("shorten", -1)):
            self.assertEqual(act(store, action), (TooManyActions, ()))
        self.assertEqual(told(store), before)
        store.undo()
        self.assertEqual(len(store), 59)
        self.assertEqual(act(store, ("take", None)), (NoSuchProgram, (None,)))
        self.assertIsNone(act(store, ("shorten", 0)))
        self.assertEqual(act(store, ("take", None)), (TooManyActions, ()))

    def test_actions_that_leave_all_as_it_was(self):
        store = Store(8, E)
        store.shorten(0)
        store.shorten(0)
        self.assertEqual((store.programs, store.papers, len(store)), ((E,), ((),), 2))
        self.assertEqual(store.actions(), (("shorten", 0), ("shorten", 0)))
        self.assertEqual([store.undo(), store.undo(), act(store, ("undo",))], [None, None, (NothingToUndo, ())])

    def test_undo_after_each_action(self):
        for action in (("put", A), ("take", 0), ("chain", 0, 1), ("step", 1, ("delete", 8)), ("step", 0, ("insert", 5, ("not", 4))),
                       ("shorten", 1), ("shorten", 0)):
            store = Store(8, N, A)
            store.step(1, ("use", 9, 1, 5, ("same",)))
            before = told(store)
            self.assertIsNone(act(store, action))
            self.assertEqual((store.actions()[1:], len(store)), ((action,), 2))
            store.undo()
            self.assertEqual(told(store), before)


class QueryTests(unittest.TestCase):
    def test_properties_can_only_be_read(self):
        for store in (Store(8, N), ShortStore(8, N, most=5)):
            before = told(store)
            for name in ("width", "programs", "papers", "row_count"):
                with self.assertRaises(AttributeError):
                    setattr(store, name, ())
            self.assertEqual(told(store), before)

    def test_state_at_with_values_of_all_kinds(self):
        store = Store(8, N)
        store.put(A)
        store.take(0)
        for value in [*odd_values(), Other(), -1, 3, True, False, "0", 10 ** 399]:
            with self.assertRaises(NoSuchStep) as caught:
                store.state_at(value)
            self.assertIs(caught.exception.number, value)
        self.assertEqual([store.state_at(step) for step in range(3)], [(N,), (N, A), (A,)])

    def test_walk(self):
        rng = some_random(89)
        for width in (1, 8, 64):
            programs = [random_program(rng, width, 6) for _ in range(5)]
            store = Store(width, *programs)
            words = tuple(rng.randrange(2 ** width) for _ in range(4))
            self.assertEqual(list(store.walk(words)), [slow_result(width, program, words) for program in programs])
        one, other = store.walk(words), store.walk(words)
        self.assertTrue(all(next(one) == next(other) for _ in range(5)))
        for value in [*odd_values(), Other(), 5, (0, 0, 0), (0, 0, 0, 0, 0), [0, 0, 0, 0], (0, 0, 0, 2 ** 64), (0, True, 0, 0)]:
            for store in (Store(8, N), Store(8)):
                self.assertRaises(BadInput, lambda: list(store.walk(value)))
                self.assertRaises(BadInput, lambda: next(store.walk(value)))
        self.assertEqual(list(Store(8).walk((0, 0, 0, 0))), [])

    def test_size_of(self):
        for name, size in ACTIONS.items():
            self.assertEqual((Store.size_of(name), ShortStore.size_of(name), Store(8).size_of(name)), (size,) * 3)
        for value in [*odd_values(), Other(), "undo", "run", "Put", "put ", "", "copy", ["put"], ("put",), "width", 1]:
            self.assertIsNone(Store.size_of(value))

    def test_read_and_blank(self):
        for kind in (Store, ShortStore):
            store = kind.read("width 3\nneg 0\nout 2 4\n")
            self.assertEqual((type(store), store.width, store.programs), (kind, 3, (((("neg", 0),), (2, 4)),)))
            self.assertEqual(kind.read(format_program(8, A)), kind(8, A))
            blank = kind.blank(5)
            self.assertEqual((type(blank), blank.width, blank.programs, blank), (kind, 5, (), kind(5)))
            for value in [*odd_values(), Other(), 0, 65, N]:
                with self.assertRaises(BadWidth) as caught:
                    kind.blank(value)
                self.assertIs(caught.exception.value, value)
                with self.assertRaises(ParseError) as caught:
                    kind.read(value)
                self.assertEqual(caught.exception.place, 0 if isinstance(value, str) else None)
            with self.assertRaises(ParseError) as caught:
                kind.read("width 3\nneg 0\nneg 6\nout 2 4\n")
            self.assertEqual(caught.exception.place, 2)
        # They have no bound.
        self.assertIsNone(act(ShortStore.read(format_program(8, LONG)), ("put", LONG)))
        self.assertIsNone(act(ShortStore.blank(8), ("put", LONG)))
        self.assertEqual(ShortStore(8, N, most=1).blank(8), ShortStore(8))


class BoundTests(unittest.TestCase):
    def test_example(self):
        self.assertEqual(act(ShortStore(8, N, most=1), ("put", N)), (TooLong, (2,)))

    def test_constructor(self):
        self.assertTrue(issubclass(ShortStore, Store))
        for most in (None, 7, 8, 10 ** 29, 10 ** 30 - 1):
            self.assertEqual(ShortStore(8, N, A, most=most).row_count, 7)
        for most in (0, 1, 6):
            with self.assertRaises(TooLong) as caught:
                ShortStore(8, N, A, most=most)
            self.assertEqual(caught.exception.size, 7)
        self.assertEqual(ShortStore(8, E, most=0).programs, (E,))
        for arguments, kind in (((0, LONG), BadWidth), ((8, *[LONG] * 11), TooMany), ((8, LONG, None), BadProgram)):
            self.assertRaises(kind, lambda: ShortStore(*arguments, most=0))

    def test_bounds_at_just_below_and_just_above(self):
        insert = ("insert", 4, ("number", 1))
        for action, size in ((("put", A), 13), (("put", E), 7), (("chain", 0, 1), 13), (("chain", 1, 0), 8),
                             (("step", 0, insert), 8), (("take", 1), 1), (("shorten", 1), 6), (("shorten", 0), 7)):
            for most in range(7, 15):
                store = ShortStore(8, N, A, most=most)
                before = told(store)
                found = act(store, action)
                if size > most:
                    self.assertEqual(found, (TooLong, (size,)), (action, most))
                    self.assertEqual(told(store), before)
                else:
                    self.assertIsNone(found)
                    self.assertEqual(store.row_count, size)
                    self.assertIsNone(act(store, ("undo",)))
                    self.assertEqual(told(store), before)

    def test_after_all_other_errors(self):
        store = ShortStore(8, LONG, N, *[E] * 8, most=61)
        for action, expected in ((("put", None), BadProgram), (("put", N), TooMany), (("put", E), TooMany),
                                 (("chain", 0, 1), TooLarge), (("chain", 1, 1), TooLong), (("step", 1, None), BadStep),
                                 (("step", 0, ("insert", 4, ("number", 1))), TooLarge), (("step", 99, None), NoSuchProgram),
                                 (("step", 1, ("insert", 4, ("number", 1))), TooLong)):
            self.assertEqual(act(store, action)[0], expected, action)
        for _ in range(60):
            store.shorten(2)
        self.assertEqual(act(store, ("chain", 1, 1)), (TooManyActions, ()))


class CopyTests(unittest.TestCase):
    def some_stores(self):
        stores = [Store(8, N, A), ShortStore(8, N, A), ShortStore(8, N, A, most=8), Store(8)]
        for store in stores:
            act(store, ("shorten", 1))
            act(store, ("put", E))
            act(store, ("step", 0, ("insert", 4, ("number", 1))))
        return stores

    def test_copies(self):
        for store in self.some_stores():
            store.run([])
            other = store.copy()
            self.assertIs(type(other), type(store))
            self.assertTrue(other == store and store == other)
            self.assertEqual((other.log(), store.log()), ((), (("begin", 0), ("end", 0))))
            self.assertEqual(told(other)[:7], told(store)[:7])
            self.assertEqual(told(other)[8:], told(store)[8:])
            self.assertEqual(act(other, ("put", LONG)), act(store, ("put", LONG)))

    def test_copies_go_their_own_way(self):
        for store in self.some_stores():
            before = told(store)
            other = store.copy()
            for _ in range(len(other)):
                other.undo()
            self.assertEqual(act(other, ("undo",)), (NothingToUndo, ()))
            act(other, ("put", E))
            other.run([("take", 0)])
            self.assertEqual(told(store), before)
            again = store.copy()
            kept = told(again)
            act(store, ("take", 0))
            while len(store) > 0:
                store.undo()
            self.assertEqual(told(again), kept)

    def test_equal(self):
        stores = [Store(8), Store(7), ShortStore(8), ShortStore(8, most=0), ShortStore(8, most=5), Store(8, N), Store(8, N, A),
                  Store(8, A, N), ShortStore(8, N), ShortStore(8, N, most=5), ShortStore(8, N, most=6), ShortStore(7, N, most=5)]
        bounds = [None, None, "none", 0, 5, None, None, None, "none", 5, 6, 5]
        for (one, first), (other, second) in itertools.product(zip(stores, bounds), repeat=2):
            equal = (one.width, one.programs, first) == (other.width, other.programs, second)
            self.assertIs(one == other, equal)
            self.assertIs(one != other, not equal)
        for value in [*odd_values(), Other(), N, (N,), str(Store(8, N)), Program(8, N), None]:
            for store in stores:
                self.assertIs(store == value, False)
                self.assertIs(store != value, True)

    def test_equal_whatever_the_actions_were(self):
        store = Store(8, N)
        other = Store(8)
        other.put(N)
        self.assertTrue(store == other)
        store.chain(0, 0)
        other.step(0, ("insert", 5, ("neg", 4)))
        self.assertFalse(store == other)
        other.step(0, ("use", 6, 0, 4, ("same",)))
        store.undo()
        store.step(0, ("insert", 5, ("neg", 4)))
        self.assertTrue(store == other)

    def test_answers_as_a_new_store(self):
        rng = some_random(92)
        for _ in range(40):
            width = rng.choice((1, 8, 64))
            store = Store(width, random_program(rng, width, 4))
            for _ in range(20):
                act(store, random_action(rng, width, len(store.programs)) if rng.random() < 0.8 else ("undo",))
            fresh = Store(width, *store.programs)
            self.assertTrue(fresh == store)
            words = tuple(rng.randrange(2 ** width) for _ in range(4))
            self.assertEqual((store.width, store.programs, store.row_count, list(store.walk(words))),
                             (fresh.width, fresh.programs, fresh.row_count, list(fresh.walk(words))))
            while len(store) > 40:
                store.undo()
            fresh = Store(width, *store.programs)
            for _ in range(10):
                action = random_action(rng, width, len(store.programs))
                self.assertEqual(act(store, action), act(fresh, action))
                self.assertEqual(store.programs, fresh.programs)


class ArgumentTests(unittest.TestCase):
    def test_later_changes_have_no_effect(self):
        programs = [N, A]
        store = Store(8, *programs)
        programs.append(E)
        programs[0] = E
        self.assertEqual(store.programs, (N, A))
        bad = [["neg", 0]]
        self.assertEqual(act(store, ("put", (bad, (4,)))), (BadProgram, ((None, "program"),)))
        self.assertEqual(bad, [["neg", 0]])


if __name__ == "__main__":
    unittest.main()
