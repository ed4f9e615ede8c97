"""[79], [80] The class Program."""

import itertools
import unittest

from tests.helpers import Other, odd_values, some_random
from tests.slow_programs import ORDER, random_program, slow_result
from wordsalike.errors import BadInput, BadProgram, BadWidth, TooLarge, UnequalWidths, UnlikePrograms
from wordsalike.masks import Mask
from wordsalike.mixing import Mix
from wordsalike.passes import short_program
from wordsalike.programs import Program, program_fault, run_program
from wordsalike.stores import Store

A = ((("number", 3), ("mul", 0, 4), ("number", 4), ("mul", 5, 6), ("mul", 4, 0), ("sub", 7, 8)), (9,))
N = ((("neg", 0),), (4,))


def told(one):
    return (one.width, one.rows, one.last, str(one), len(one))


class ConstructorTests(unittest.TestCase):
    def test_example(self):
        self.assertEqual(Program(8, A).last, (9,))

    def test_properties(self):
        rng = some_random(79)
        for width in (1, 2, 8, 64):
            for count in (0, 1, 7, 60):
                program = random_program(rng, width, count)
                one = Program(width, program)
                self.assertEqual((one.width, one.rows, one.last), (width, *program))
                for name in ("width", "rows", "last"):
                    with self.assertRaises(AttributeError):
                        setattr(one, name, ())
                self.assertEqual((one.width, one.rows, one.last), (width, *program))

    def test_errors_in_their_order(self):
        for value in [*odd_values(), Other(), 0, 65, Program(8, A), Store(8)]:
            with self.assertRaises(BadWidth) as caught:
                Program(value, value)
            self.assertIs(caught.exception.value, value)
            self.assertRaises(BadWidth, Program, value, A)
            for width in (1, 64):
                with self.assertRaises(BadProgram) as caught:
                    Program(width, value)
                self.assertEqual(caught.exception.fault, program_fault(width, value))
        for width, value, fault in ((1, A, (0, "row")), (2, A, (2, "row")), (8, (A[0], (10,)), (0, "out")), (8, A[0], (None, "program")),
                                    (8, (A[0] * 11, ()), (None, "rows")), (8, (A[0], ()), (None, "outs"))):
            with self.assertRaises(BadProgram) as caught:
                Program(width, value)
            self.assertEqual(caught.exception.fault, fault)
        self.assertEqual(Program(3, A).rows, A[0])


class CallTests(unittest.TestCase):
    def test_example(self):
        self.assertEqual(Program(8, N)((3, 0, 0, 0)), (253,))

    def test_results(self):
        rng = some_random(80)
        for width in (1, 3, 64):
            for _ in range(10):
                program = random_program(rng, width, 8)
                words = tuple(rng.randrange(2 ** width) for _ in range(4))
                self.assertEqual(Program(width, program)(words), slow_result(width, program, words))

    def test_inputs_of_all_kinds(self):
        one = Program(8, N)
        for value in [*odd_values(), Other(), one, 5, (0, 0, 0), (0, 0, 0, 0, 0), [0, 0, 0, 0], (0, 0, 0, 256), (-1, 0, 0, 0),
                      (0, True, 0, 0), (0, 0, None, 0), ((0, 0, 0, 0),), (0, 0, 0, 10 ** 399), "0000", (0, 0, 0, "0")]:
            self.assertRaises(BadInput, one, value)
        self.assertEqual(one((255, 255, 255, 255)), (1,))


class ChainTests(unittest.TestCase):
    def test_results(self):
        rng = some_random(81)
        done = 0
        for _ in range(300):
            width = rng.choice((1, 2, 8, 64))
            pair = [random_program(rng, width, rng.randrange(8)) for _ in range(2)]
            one, other = [Program(width, program) for program in pair]
            used = {value for row in other.rows for value in row[1:] if isinstance(value, int)} | set(other.last)
            if len(one.last) < 4 and used & set(range(len(one.last), 4)):
                # A further number is no operand: look again without these.
                try:
                    one >> other
                except UnlikePrograms:
                    continue
            chained = one >> other
            done += 1
            self.assertEqual((type(chained), chained.width, len(chained)), (Program, width, len(one) + len(other)))
            self.assertEqual(chained.rows[:len(one)], one.rows)
            for _ in range(3):
                words = tuple(rng.randrange(2 ** width) for _ in range(4))
                between = (*slow_result(width, pair[0], words), 0, 0, 0, 0)[:4]
                self.assertEqual(chained(words), slow_result(width, pair[1], between))
        self.assertGreater(done, 60)

    def test_rows_and_outs(self):
        one = Program(8, ((("neg", 0), ("add", 4, 1)), (5, 2, 4)))
        other = Program(8, ((("sub", 1, 2), ("scale", 4, 3, 2, 1), ("pick", 0, 5, 2), ("left", 0, 3)), (6, 0, 2, 7)))
        chained = one >> other
        self.assertEqual((chained.rows, chained.last), ((("neg", 0), ("add", 4, 1), ("sub", 2, 4), ("scale", 6, 3, 2, 1),
                                                         ("pick", 5, 7, 4), ("left", 5, 3)), (8, 5, 4, 9)))
        # Outs that are inputs.
        turn = Program(8, ((), (3, 2, 1, 0)))
        self.assertEqual((turn >> turn).last, (0, 1, 2, 3))
        self.assertEqual((turn >> Program(8, A)).rows[1], ("mul", 3, 4))
        self.assertEqual((Program(8, A) >> Program(8, ((), (0, 0)))).last, (9, 9))
        # The further numbers are no values.
        self.assertEqual((Program(8, N) >> Program(8, ((("scale", 0, 3, 3, 3), ("number", 2), ("left", 0, 1)), (4,)))).last, (5,))

    def test_inputs_that_one_has_no_out_for(self):
        for many in (1, 2, 3, 4):
            one = Program(8, ((("neg", 0),), (4,) * many))
            for name in range(4):
                for program in (((), (name,)), ((("not", name),), (0,)), ((("pick", 0, 0, name), ("neg", 0)), (5,))):
                    if name < many:
                        self.assertEqual((one >> Program(8, program)).width, 8)
                    else:
                        self.assertRaises(UnlikePrograms, lambda: one >> Program(8, program))

    def test_errors_in_their_order(self):
        long = Program(8, (tuple(("neg", 3 + k if k else 0) for k in range(60)), (63,)))
        longer = Program(8, (tuple(("neg", 3 + k if k else 1) for k in range(60)), (63,)))
        narrow = Program(7, ((), (3,)))
        for one, other, kind in ((long, narrow, UnequalWidths), (narrow, long, UnequalWidths), (long, longer, UnlikePrograms),
                                 (long, long, TooLarge), (long, Program(8, N), TooLarge)):
            self.assertRaises(kind, lambda: one >> other)
        with self.assertRaises(TooLarge) as caught:
            long >> long
        self.assertEqual(caught.exception.limit, 60)
        self.assertEqual(len(long >> Program(8, ((), (0,)))), 60)
        half = Program(8, (long.rows[:30], (33,)))
        self.assertEqual(len(half >> half), 60)
        self.assertEqual((half >> half)((7, 0, 0, 0)), (7,))


class OtherTests(unittest.TestCase):
    def test_operations(self):
        rng = some_random(82)
        for _ in range(30):
            program = random_program(rng, 8, 6)
            one = Program(8, program)
            for name in ORDER:
                self.assertIs(name in one, name in [row[0] for row in program[0]])
        one = Program(8, N)
        for value in [*odd_values(), Other(), one, ("neg", 0), ("neg",), ["neg"], "Neg", "neg ", 0, Mask(4, 0, 0), None]:
            self.assertIs(value in one, False)
        self.assertIs("neg" in one, True)
        self.assertIs("neg" in Program(8, ((), (0,))), False)

    def test_shortened(self):
        rng = some_random(83)
        for _ in range(40):
            width = rng.choice((1, 8, 64))
            program = random_program(rng, width, 8)
            one = Program(width, program)
            short = one.shortened()
            self.assertEqual((type(short), short.width, (short.rows, short.last)), (Program, width, short_program(width, program)))
            self.assertEqual(short.shortened(), short)
            self.assertEqual((one.rows, one.last), program)

    def test_len_and_text(self):
        self.assertEqual(str(Program(8, ((("neg", 0),), (4, 1)))), "4 = neg 0\nout 4 1")
        self.assertEqual(str(Program(8, ((), (3, 3, 0)))), "out 3 3 0")
        program = ((("number", 2 ** 64 - 1), ("scale", 4, 10, 0, 128), ("pick", 5, 4, 0)), (6,))
        self.assertEqual(str(Program(64, program)), f"4 = number {2 ** 64 - 1}\n5 = scale 4 10 0 128\n6 = pick 5 4 0\nout 6")
        self.assertEqual([len(Program(8, value)) for value in (A, N, ((), (0,)))], [6, 1, 0])

    def test_equal(self):
        programs = [Program(width, value) for width in (3, 8) for value in
                    (A, N, ((), (0,)), ((), (1,)), ((("neg", 0),), (4, 4)), ((("neg", 1),), (4,)))]
        for one, other in itertools.product(programs, repeat=2):
            equal = (one.width, one.rows, one.last) == (other.width, other.rows, other.last)
            self.assertIs(one == other, equal)
            self.assertIs(one != other, not equal)
        self.assertTrue(Program(8, A) == Program(8, A))
        for value in [*odd_values(), Other(), N, (8, N), str(Program(8, N)), Mix.read("-a", 8), Store(8, N)]:
            self.assertIs(Program(8, N) == value, False)
            self.assertIs(Program(8, N) != value, True)

    def test_they_do_not_change(self):
        one, other = Program(8, A), Program(8, N)
        before = (told(one), told(other))
        for _ in range(2):
            results = (one >> other, one((1, 2, 3, 4)), "mul" in one, one.shortened(), one == other)
            self.assertEqual(results[1], run_program(8, A, (1, 2, 3, 4)))
            self.assertEqual((told(one), told(other)), before)


if __name__ == "__main__":
    unittest.main()
