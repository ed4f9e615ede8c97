"""[86], [87] Batches of actions, what on_step can do, and the log."""

import unittest

from tests.helpers import Other, changed_values, odd_values
from tests.test_stores import A, E, LONG, N, act, told
from wordsalike.consoles import Console
from wordsalike.errors import BatchFailed, Busy, InvalidBatch, TooLong, TooManyActions, WordError
from wordsalike.stores import ShortStore, Store

INSERT = ("insert", 4, ("number", 1))


def state_of(store):
    """All that a store answers but for its log."""
    found = told(store)
    return (*found[:7], *found[8:])


def ran(store, batch, on_step=None):
    """The kind of error that run raises and its fields, None if there is none."""
    try:
        result = store.run(batch, on_step=on_step)
    except Exception as error:
        return (type(error), tuple(vars(error).values()))
    assert result is None
    return None


class BatchTests(unittest.TestCase):
    def test_examples(self):
        store = Store(8, N)
        self.assertEqual(ran(store, [("shorten", 0), ("take", 4)]), (BatchFailed, (1,)))
        store = Store(8, N)
        store.run([("take", 0)])
        self.assertEqual(store.log(), (("begin", 1), ("end", 1)))

    def test_actions_in_order(self):
        batch = [("put", A), ("step", 1, ("use", 9, 1, 5, ("same",))), ("shorten", 1), ("chain", 0, 0), ("take", 1), ("put", E)]
        for kind in (list, tuple):
            store, other = Store(8, N), Store(8, N)
            self.assertIsNone(ran(store, kind(batch)))
            for action in batch:
                self.assertIsNone(act(other, action))
            self.assertEqual(state_of(store), state_of(other))
            self.assertEqual(store.actions(), tuple(batch))
            # Each action is kept as one of its own.
            for left in range(len(batch), 0, -1):
                self.assertEqual(len(store), left)
                store.undo()
            self.assertEqual(store, Store(8, N))
            self.assertEqual(store.log(), (("begin", 6), ("end", 6)))

    def test_twenty_and_twenty_one_actions(self):
        for kind in (list, tuple):
            store = Store(8)
            self.assertIsNone(ran(store, kind([("put", N), ("take", 0)] * 10)))
            before = told(store)
            self.assertEqual(ran(store, kind([("put", N)] * 21)), (InvalidBatch, ()))
            self.assertEqual(told(store), before)
            self.assertIsNone(ran(store, kind([])))
            self.assertEqual(store.log()[-2:], (("begin", 0), ("end", 0)))

    def test_failing_at_each_action(self):
        for most in (None, 8):
            for at in range(20):
                for failing in (("take", 9), ("put", None), ("step", 0, None), ("chain", 0, -1), ("chain", 0, 1), ("shorten", []),
                                ("put", LONG)):
                    if failing in (("put", LONG), ("chain", 0, 1)) and most is None:
                        continue
                    store = ShortStore(8, N, A, most=most) if most else Store(8, N, A)
                    act(store, ("shorten", 0))
                    before = state_of(store)
                    batch = [("put", E), ("take", 2)] * 10
                    batch[at] = failing
                    self.assertEqual(ran(store, batch), (BatchFailed, (at,)))
                    self.assertEqual(state_of(store), before)
                    self.assertEqual(store.log(), (("begin", 20), ("end", 0)))

    def test_too_many_actions(self):
        store = Store(8)
        for _ in range(2):
            store.run([("put", N), ("take", 0)] * 10)
        store.run([("put", N), ("take", 0)] * 9)
        before = state_of(store)
        self.assertEqual(len(store), 58)
        self.assertEqual(ran(store, [("put", N), ("put", N), ("put", N)]), (BatchFailed, (2,)))
        self.assertEqual(state_of(store), before)
        self.assertIsNone(ran(store, [("put", N), ("put", N)]))
        self.assertEqual(ran(store, [("take", 99)]), (BatchFailed, (0,)))
        self.assertIsNone(ran(store, []))
        self.assertEqual(act(store, ("take", 0)), (TooManyActions, ()))

    def test_values_that_are_no_batch(self):
        store = Store(8, N)
        before = told(store)
        for value in [*odd_values(), Other(), store, "put", ("put", N), [["take", 0]], [("take",)], [("take", 0, 0)], [("put",)],
                      [("chain", 0)], [("chain", 0, 0, 0)], [("step", 0)], [("shorten",)], [("undo",)], [("run", [])], [()],
                      [("Take", 0)], [(["take"], 0)], [({}, 0)], [("take", 0), None], [None, ("take", 0)], [("take", 0), ("copy",)],
                      {"a": ("take", 0)}, [("walk", 0)], [(None, 0)], [(True, 0)], (("take", 0), ["take", 0])]:
            valid = isinstance(value, (list, tuple)) and len(value) == 0
            if not valid:
                self.assertEqual(ran(store, value), (InvalidBatch, ()), value)
                self.assertEqual(ran(store, value, on_step=lambda _: 1 // 0), (InvalidBatch, ()))
                self.assertEqual(told(store), before)
        for value in changed_values((("take", 0), ("put", N))):
            found = ran(Store(8, N), value)
            self.assertIn(found and found[0], (None, InvalidBatch, BatchFailed))
        # Wrong arguments make a batch that fails, not one that is none.
        self.assertEqual(ran(store, [("take", None)]), (BatchFailed, (0,)))

    def test_batch_is_not_modified(self):
        for batch in ([("take", 0)], [("take", 5)], [("put", [N])], [("step", 0, [INSERT])]):
            before = repr(batch)
            ran(Store(8, N), batch)
            self.assertEqual(repr(batch), before)


class OnStepTests(unittest.TestCase):
    def test_it_is_called_after_each_action(self):
        store = Store(8, N)
        seen = []
        store.run([("put", A), ("take", 0), ("shorten", 0)], on_step=lambda same: seen.append((same is store, state_of(same), same.log())))
        self.assertEqual([told_now[1][1] for told_now in seen], [(N, A), (A,), store.programs])
        self.assertEqual([told_now[1][4] for told_now in seen], [store.actions()[:k] for k in (1, 2, 3)])
        self.assertTrue(all(told_now[0] for told_now in seen))
        self.assertEqual({told_now[2] for told_now in seen}, {(("begin", 3),)})
        self.assertIsNone(ran(store, [], on_step=lambda _: 1 // 0))
        # Its result has no effect.
        for result in (False, True, 0, InvalidBatch(), "stop"):
            self.assertIsNone(ran(store, [("shorten", 0)], on_step=lambda _: result))

    def test_it_is_not_called_after_an_action_that_fails(self):
        seen = []
        self.assertEqual(ran(Store(8, N), [("put", A), ("take", 9), ("take", 0)], on_step=lambda same: seen.append(len(same))),
                         (BatchFailed, (1,)))
        self.assertEqual(seen, [1])

    def test_all_actions_are_refused(self):
        found = []

        def on_step(store):
            before = told(store)
            for action in (("put", N), ("put", None), ("take", 0), ("take", None), ("chain", 0, 0), ("chain", [], {}), ("step", 0, None),
                           ("step", 0, INSERT), ("shorten", 0), ("shorten", "x"), ("undo",)):
                found.append(act(store, action))
            for batch in ([], [("take", 0)], None, [("take",)], "x"):
                found.append(ran(store, batch))
                found.append(ran(store, batch, on_step=on_step))
            console = Console(store)
            for line in ("take 0", "take 9", "chain 0 0", "shorten 0", "undo", "drop 0 4", "same 0 4 0 0 "):
                found.append(console.execute(line))
            assert told(store) == before

        store = Store(8, N)
        for number in range(3):
            store.run([("put", E), ("take", 1)], on_step=on_step)
            self.assertEqual(store.log(), (("begin", 2), ("end", 2)) * (number + 1))
        self.assertEqual(set(found), {(Busy, ()), "error Busy", "unknown"})
        self.assertEqual(found.count("unknown"), 6)
        # Afterwards the store is not busy.
        self.assertIsNone(act(store, ("undo",)))
        # Busy comes before TooManyActions.
        full = Store(8)
        for many in (10, 10, 9):
            full.run([("put", N), ("take", 0)] * many)
        found.clear()
        self.assertIsNone(ran(full, [("put", N), ("take", 0)], on_step=lambda same: found.append(act(same, ("put", N)))))
        self.assertEqual((found, len(full)), ([(Busy, ())] * 2, 60))
        self.assertEqual(act(full, ("put", N)), (TooManyActions, ()))

    def test_all_queries_are_allowed(self):
        store = ShortStore(8, N, A, most=20)
        answers = []

        def on_step(same):
            other = same.copy()
            answers.append((told(same), list(same.walk((1, 2, 3, 4))), other == same, other.log(), len(other), type(other)))
            answers.append((same.size_of("put"), same.read("width 8\nout 0\n").programs, same.blank(3).width, same == Store(8)))
            # The copy is not busy, and another store is not either.
            assert act(other, ("take", 0)) is None
            assert ran(other, [("take", 0)], on_step=lambda third: third.copy().undo()) is None
            assert act(Store(8, N), ("take", 0)) is None
            assert same.log()[-1] == ("begin", 2)

        self.assertIsNone(ran(store, [("shorten", 1), ("put", E)], on_step=on_step))
        self.assertEqual([part[3:] for part in answers[::2]], [((), 1, ShortStore), ((), 2, ShortStore)])
        self.assertEqual([part[2] for part in answers[::2]], [True, True])
        self.assertEqual(len(store), 2)

    def test_errors_of_all_kinds(self):
        class Odd(BaseException):
            pass

        for kind in (ValueError, KeyError, StopIteration, GeneratorExit, KeyboardInterrupt, SystemExit, RecursionError, MemoryError,
                     Odd, WordError, Busy, InvalidBatch, TooLong, BatchFailed, AssertionError):
            for at in range(3):
                store = Store(8, N, A)
                store.shorten(1)
                before = state_of(store)
                error = kind(7) if kind in (TooLong, BatchFailed) else kind()
                seen = []

                def on_step(same):
                    seen.append(same.programs)
                    if len(seen) == at + 1:
                        raise error

                with self.assertRaises(kind) as caught:
                    store.run([("put", E), ("take", 0), ("take", 0)], on_step=on_step)
                self.assertIs(caught.exception, error)
                self.assertEqual((len(seen), state_of(store)), (at + 1, before))
                self.assertEqual(store.log(), (("begin", 3), ("end", 0)))
                self.assertIsNone(act(store, ("undo",)))

    def test_it_changes_the_batch(self):
        batch = [("put", E), ("take", 0), ["x"]]
        batch.pop()

        def on_step(_):
            batch[1:] = [("put", A)] * 30
            batch[0] = None

        store = Store(8, N)
        self.assertIsNone(ran(store, batch, on_step=on_step))
        self.assertEqual((store.programs, store.actions()), ((E,), (("put", E), ("take", 0))))
        self.assertEqual(len(batch), 31)

    def test_runs_within_runs_of_other_stores(self):
        one, other = Store(8, N), Store(8, A)

        def on_step(store):
            self.assertEqual(ran(other, [("put", store.programs[0])], on_step=lambda _: self.assertEqual(ran(one, []), (Busy, ()))), None)

        self.assertIsNone(ran(one, [("put", E), ("take", 0)], on_step=on_step))
        self.assertEqual(other.programs, (A, N, E))
        self.assertEqual((one.log(), other.log()), ((("begin", 2), ("end", 2)), (("begin", 1), ("end", 1)) * 2))


class LogTests(unittest.TestCase):
    def test_last_ten_rows(self):
        store = Store(8, N)
        rows = []
        for number in range(9):
            many = number % 4
            failing = number % 3 == 2 and many > 0
            batch = [("shorten", 0)] * many
            if failing:
                batch[-1] = ("take", 5)
            self.assertEqual(ran(store, batch), (BatchFailed, (many - 1,)) if failing else None)
            rows.extend([("begin", many), ("end", 0 if failing else many)])
            self.assertEqual(store.log(), tuple(rows[-10:]))

    def test_log_of_ten_rows_during_on_step(self):
        store = Store(8, N)
        rows = [("begin", 0), ("end", 0)] * 5
        for _ in range(5):
            store.run([])
        self.assertEqual(store.log(), tuple(rows))
        seen = []
        store.run([("shorten", 0)], on_step=lambda same: seen.append(same.log()))
        rows.append(("begin", 1))
        self.assertEqual(seen, [tuple(rows[-10:])])
        rows.append(("end", 1))
        self.assertEqual(store.log(), tuple(rows[-10:]))

    def test_nothing_else_adds_rows(self):
        store = Store(8, N)
        store.run([("put", E)])
        rows = store.log()
        for action in (("put", A), ("take", 0), ("take", 9), ("undo",), ("shorten", 0), ("chain", 0, 0)):
            act(store, action)
        for batch in (None, [None], [("take", 0)] * 21):
            self.assertEqual(ran(store, batch), (InvalidBatch, ()))
        store.copy().run([])
        self.assertEqual((store.log(), store.copy().log()), (rows, ()))
        while len(store) > 0:
            store.undo()
        self.assertEqual(store.log(), rows)
        # What log returned does not change later.
        store.run([])
        self.assertEqual(rows, (("begin", 1), ("end", 1)))


if __name__ == "__main__":
    unittest.main()
