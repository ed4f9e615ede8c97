"""[94], [95] The console."""

import unittest

from tests.helpers import Other, odd_values, some_random
from tests.slow_programs import random_program
from tests.test_stores import A, E, LONG, N, told
from wordsalike.consoles import Console
from wordsalike.passes import compare_programs
from wordsalike.programs import run_program
from wordsalike.stores import ShortStore, Store

TWO = ((("add", 0, 1),), (4,))
COMMANDS = {"take": 1, "chain": 2, "shorten": 1, "undo": 0, "drop": 2, "same": 4}
QUERIES = {"width": 0, "size": 0, "rows": 0, "run": 5, "steps": 1, "compare": 2}


def results(store, *lines):
    console = Console(store)
    return [console.execute(line) for line in lines]


class CommandTests(unittest.TestCase):
    def test_examples(self):
        self.assertEqual(Console(Store(8, N)).execute("run 0 3 0 0 0"), "253")
        self.assertEqual(Console(Store(8)).transcript(), ())

    def test_each_command(self):
        store, other = Store(8, N, A, TWO), Store(8, N, A, TWO)
        console = Console(store)
        for line, name, arguments in (
                ("same 1 9 1 5", "step", (1, ("use", 9, 1, 5, ("same",)))), ("drop 1 8", "step", (1, ("delete", 8))),
                ("chain 2 0", "chain", (2, 0)), ("chain 0 0", "chain", (0, 0)), ("shorten 0", "shorten", (0,)),
                ("shorten 1", "shorten", (1,)), ("take 0", "take", (0,)), ("undo", "undo", ())):
            self.assertEqual(console.execute(line), "done")
            getattr(other, name)(*arguments)
            self.assertEqual(told(store), told(other))
        self.assertEqual(store.programs[2], ((("add", 0, 1), ("neg", 4)), (5,)))

    def test_each_query(self):
        store = Store(8, A, N, ((), (3, 2, 1, 0)), TWO, ((("xor", 0, 1), ("and", 0, 1), ("left", 5, 1), ("add", 4, 6)), (7,)))
        before = told(store)
        for line, expected in (("width", "8"), ("size", "5"), ("rows", "12"), ("run 0 5 0 0 0", "45"), ("run 1 255 9 9 9", "1"),
                               ("run 2 1 20 3 255", "255 3 20 1"), ("run 3 200 100 0 0", "44"), ("steps 0", "0"), ("steps 4", "0"),
                               ("compare 3 4", "paper"), ("compare 4 3", "paper"), ("compare 0 0", "paper"),
                               ("compare 0 1", "input 255 0 0 0"), ("compare 3 1", "input 255 0 0 0")):
            self.assertEqual(results(store, line), [expected], line)
        self.assertEqual(told(store), before)
        store.shorten(0)
        self.assertEqual(results(store, "steps 0"), [str(len(store.papers[0]))])
        open_ones = Store(4, ((("number", 1), ("add", 1, 4), ("mul", 0, 5)), (6,)), ((("mul", 0, 1), ("add", 4, 0)), (5,)))
        self.assertEqual(results(open_ones, "compare 0 1", "compare 1 0", "width"), ["open", "open", "4"])
        great = Store(64, ((("not", 0),), (4, 3)))
        self.assertEqual(results(great, f"run 0 0 0 0 {2 ** 64 - 1}", "size", "rows"), [f"{2 ** 64 - 1} {2 ** 64 - 1}", "1", "1"])
        self.assertEqual(results(Store(1), "size", "rows", "width"), ["0", "0", "1"])

    def test_queries_of_random_programs(self):
        rng = some_random(94)
        for _ in range(40):
            width = rng.choice((1, 2, 8, 64))
            programs = [random_program(rng, width, 4, outs=2) for _ in range(2)]
            store = Store(width, *programs)
            words = tuple(rng.randrange(2 ** width) for _ in range(4))
            expected = " ".join(str(word) for word in run_program(width, programs[1], words))
            self.assertEqual(results(store, "run 1 " + " ".join(str(word) for word in words)), [expected])
            found = compare_programs(width, *programs)
            expected = "input " + " ".join(str(word) for word in found[1]) if found[0] == "input" else found[0]
            self.assertEqual(results(store, "compare 0 1"), [expected])

    def test_errors_as_texts(self):
        store = Store(8, N, TWO, LONG)
        before = told(store)
        for line, expected in (
                ("take 3", "NoSuchProgram"), ("take -1", "NoSuchProgram"), ("chain 3 0", "NoSuchProgram"), ("chain 0 3", "NoSuchProgram"),
                ("chain 0 1", "UnlikePrograms"), ("chain 2 0", "TooLarge"), ("shorten 3", "NoSuchProgram"), ("undo", "NothingToUndo"),
                ("drop 3 4", "NoSuchProgram"), ("drop 0 4", "BadStep"), ("drop 0 5", "BadStep"), ("drop 0 -4", "BadStep"),
                ("same 3 4 0 0", "NoSuchProgram"), ("same 0 4 0 1", "BadStep"), ("same 0 4 0 4", "BadStep"), ("same 0 4 1 0", "BadStep"),
                ("run 3 0 0 0 0", "NoSuchProgram"), ("run 3 256 0 0 0", "NoSuchProgram"), ("run 0 256 0 0 0", "BadInput"),
                ("run 0 0 0 0 -1", "BadInput"), ("steps 3", "NoSuchProgram"), ("steps -1", "NoSuchProgram"),
                ("compare 0 3", "NoSuchProgram"), ("compare 3 0", "NoSuchProgram"), ("take 99999999999999999999", "NoSuchProgram"),
                ("take -99999999999999999999", "NoSuchProgram"), ("run 0 99999999999999999999 0 0 0", "BadInput")):
            self.assertEqual(results(store, line), ["error " + expected], line)
        self.assertEqual(told(store), before)
        unlike = Store(8, N, ((), (0, 1)))
        self.assertEqual(results(unlike, "compare 0 1", "chain 0 1", "chain 1 0"), ["error UnlikePrograms"] * 2 + ["done"])
        full = Store(8, N)
        for _ in range(60):
            full.shorten(0)
        self.assertEqual(results(full, "shorten 0", "take 9", "drop 9 9", "undo", "take 9"),
                         ["error TooManyActions"] * 3 + ["done", "error NoSuchProgram"])
        short = ShortStore(8, A, N, most=7)
        self.assertEqual(results(short, "chain 0 1", "chain 1 0", "chain 1 1", "undo"),
                         ["error TooLong", "error TooLong", "error TooLong", "error NothingToUndo"])

    def test_busy(self):
        store, found = Store(8, N), []
        console = Console(store)
        lines = ("take 0", "chain 9 9", "shorten 0", "undo", "drop 0 4", "same 0 0 0 0", "size", "run 0 1 0 0 0", "compare 0 1", "steps 0")
        store.run([("put", A)], on_step=lambda _: found.extend(console.execute(line) for line in lines))
        self.assertEqual(found, ["error Busy"] * 6 + ["2", "255", "input 255 0 0 0", "0"])
        self.assertEqual(len(console.transcript()), 10)


class FormTests(unittest.TestCase):
    def test_numbers_of_arguments(self):
        for table in (COMMANDS, QUERIES):
            for name, many in table.items():
                for count in range(7):
                    line = " ".join([name, *["77"] * count])
                    found = results(Store(8, N), line)[0]
                    self.assertEqual(found == "unknown", count != many, line)

    def test_integers(self):
        for number in ("0", "1", "-1", "7", "10", "-10", "12345678901234567890", "-12345678901234567890", "99999999999999999999"):
            for line in (f"take {number}", f"steps {number}", f"run 0 0 0 0 {number}", f"same 0 {number} 0 0", f"chain 0 {number}"):
                self.assertNotEqual(results(Store(8, N), line), ["unknown"], line)
        for number in ("", "00", "01", "-0", "-00", "-01", "+1", "--1", "-", "1-", "1.0", "0x1", "1_0", "a", "\u0661", "\u00b2", " ",
                       "123456789012345678901", "-123456789012345678901", "000000000000000000001", "1e3", "True", "\n", "1\n", "\t1",
                       "(1)", "1,"):
            for line in (f"take {number}", f"steps {number}", f"run 0 0 0 0 {number}", f"run 0 {number} 0 0 0", f"same {number} 4 0 0",
                         f"compare {number} 0", f"drop 0 {number}"):
                self.assertEqual(results(Store(8, N), line), ["unknown"], line)

    def test_spaces(self):
        for line in (" width", "width ", "take  0", " take 0", "take 0 ", "take\t0", "take\n0", "run 0 0 0 0  0", "undo ", " undo", "", " ",
                     "  ", "width\n", "take 0\n", "steps\u00a00", "undo\r"):
            self.assertEqual(results(Store(8, N), line), ["unknown"], repr(line))

    def test_names(self):
        for line in ("Take 0", "TAKE 0", "put", "put 0", "step 0 0", "log", "actions", "copy", "quit", "help", "take0", "width8", "programs",
                     "state_at 0", "walk", "drops 0 4", "error", "done", "unknown", "0", "take 0; undo", "x" * 4000, "take 0 # now"):
            self.assertEqual(results(Store(8, N), line), ["unknown"], line)

    def test_values_of_all_kinds(self):
        for value in [*odd_values(), Other(), b"width", ["width"], ("take", 0), Store(8)]:
            console = Console(Store(8, N))
            self.assertEqual(console.execute(value), "unknown")
            expected = value if isinstance(value, str) else None
            self.assertEqual(console.transcript(), ((expected, "unknown"),))


class TranscriptTests(unittest.TestCase):
    def test_last_twenty_pairs(self):
        store = Store(8, N)
        console, other = Console(store), Console(store)
        pairs = []
        lines = ("width", None, "take 5", "shorten 0", "nothing", "undo", 7, "size", "", "chain 0 0", "rows", ["rows"], "undo")
        for line in lines * 4:
            result = console.execute(line)
            self.assertIsInstance(result, str)
            pairs.append((line if isinstance(line, str) else None, result))
            self.assertEqual(console.transcript(), tuple(pairs[-20:]))
        self.assertEqual(len(console.transcript()), 20)
        self.assertEqual(other.transcript(), ())
        before = console.transcript()
        other.execute("width")
        store.shorten(0)
        self.assertEqual((console.transcript(), other.transcript()), (before, (("width", "8"),)))

    def test_the_very_store(self):
        store = Store(8, N)
        console, other = Console(store), Console(store)
        self.assertEqual(console.execute("take 0"), "done")
        self.assertEqual((store.programs, store.actions(), other.execute("size")), ((), (("take", 0),), "0"))
        store.put(E)
        self.assertEqual([console.execute("size"), other.execute("undo"), console.execute("undo")], ["1", "done", "done"])
        self.assertEqual((store.programs, len(store)), ((N,), 0))
        self.assertEqual(console.execute("undo"), "error NothingToUndo")


if __name__ == "__main__":
    unittest.main()
