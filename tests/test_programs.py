"""[68] to [72], [74] Programs: faults, values, classes, folded programs, programs of expressions."""

import itertools
import unittest

from tests.helpers import Other, bush, changed_values, odd_values, random_expression, some_random
from tests.slow_programs import (EVEN, ORDER, TWO, random_program, shuffled_program, slow_class_numbers, slow_folded,
                                 slow_result, slow_values)
from tests.slow_steps import row_is_told
from wordsalike.errors import TooLarge
from wordsalike.expressions import expression_fault, value_at
from wordsalike.masks import Mask
from wordsalike.programs import (Program, all_values, check_classes, class_numbers, folded_program, program_fault,
                                 program_of, run_program)
from wordsalike.texts import format_program, parse_expression, parse_program

A = ((("number", 3), ("mul", 0, 4), ("number", 4), ("mul", 5, 6), ("mul", 4, 0), ("sub", 7, 8)), (9,))
N = ((("neg", 0),), (4,))


def each_row(width):
    """A row of each operation, with numbers at both ends of their bounds."""
    top = 2 ** width - 1
    rows = [("number", 0), ("number", top), ("not", 3), ("neg", 0), ("pick", 1, 2, 3), ("scale", 0, top, top, 2 * width),
            ("scale", 1, 0, 0, 0), ("scale", 2, top, 0, width)]
    for name in ("left", "right", "signed"):
        rows.extend([(name, 1, 0), (name, 2, width - 1)])
    for name in ("quo", "rem"):
        rows.extend([(name, 1, 1), (name, 2, top)])
    rows.extend((name, 2, 3) for name in TWO)
    return rows


def wrong_rows(width):
    top = 2 ** width - 1
    return [("number", -1), ("number", top + 1), ("number", True), ("number",), ("number", 0, 0), ("not",), ("not", 0, 0),
            ("neg", -1), ("neg", 4), ("neg", None), ("left", 0, width), ("left", 0, -1), ("right", 0, width),
            ("signed", 0, width), ("left", 0), ("quo", 0, 0), ("quo", 0, top + 1), ("rem", 0, 0), ("rem", 0, top + 1),
            ("rem", 4, 1), ("scale", 0, top + 1, 0, 0), ("scale", 0, 0, top + 1, 0), ("scale", 0, 0, 0, 2 * width + 1),
            ("scale", 0, -1, 0, 0), ("scale", 0, 0, 0), ("scale", 0, 0, 0, 0, 0), ("add", 0), ("add", 0, 4), ("add", 4, 0),
            ("sub", 0, 0, 0), ("pick", 0, 0), ("pick", 0, 0, 4), ("pick", 4, 0, 0), ("name", 0), ("Add", 0, 0), (), None, 5,
            "neg", ["neg", 0], (["neg"], 0), ({}, 0), (("neg",), 0), ("add", True, 0), ("out", 0)]


class FaultTests(unittest.TestCase):
    def test_examples(self):
        self.assertEqual(program_fault(8, ((("add", 0, 4),), (4,))), (0, "row"))
        self.assertEqual(program_fault(8, ((("neg", 0),), (5,))), (0, "out"))
        self.assertIsNone(program_fault(8, ((("neg", 0),), (4,))))

    def test_values_of_all_kinds(self):
        for value in [*odd_values(), Other(), Mask(4, 0, 0), Program(8, N), [(), (0,)], ((), (0,), ()), ((),), ([], (0,)),
                      ((), [0]), (((),), None), ("", (0,)), ((), "0"), ({}, ())]:
            expected = (None, "outs") if value == ((), ()) else (None, "program")
            self.assertEqual(program_fault(8, value), expected, value)

    def test_rows(self):
        for width in (1, 2, 63, 64):
            for row in each_row(width):
                self.assertIsNone(program_fault(width, ((row,), (4,))), row)
                self.assertIsNone(program_fault(width, ((("neg", 0), row), (5,))))
            for row in wrong_rows(width):
                self.assertEqual(program_fault(width, ((row,), ())), (0, "row"), row)
            for row in [*wrong_rows(width), *odd_values()]:
                rows = (("neg", 0), ("neg", 4), row)
                expected = None if row_is_told(width, row) and row[1] in (4, 0) and row[-1] in range(6) else (2, "row")
                self.assertEqual(program_fault(width, (rows, (6,))), expected, row)

    def test_several_at_once(self):
        bad = ("neg", 99)
        sixty = tuple(("neg", 3 + k) for k in range(60))
        for value, expected in (
                ((sixty, (63,)), None), ((sixty, (64,)), (0, "out")), (((*sixty, ("neg", 63)), (64,)), (None, "rows")),
                (((bad,) * 61, ()), (None, "rows")), (((bad,) * 60, ()), (0, "row")), ((sixty[:59] + (bad,), ()), (59, "row")),
                ((sixty[:2] + (bad, bad), (-1,)), (2, "row")), ((sixty, ()), (None, "outs")),
                ((sixty, (0, 1, 2, 3)), None), ((sixty, (0, 1, 2, 3, 4)), (None, "outs")),
                ((sixty, (0, 1, 2, 3, 99)), (None, "outs")), ((sixty, (0, 64, -1)), (1, "out")),
                ((sixty, (0, 1, 2, True)), (3, "out")), ((sixty, (0, None)), (1, "out")), (((), (4,)), (0, "out")),
                (((), (3,)), None), (((), (-1,)), (0, "out")), (((), ([0],)), (0, "out")), (((), (10 ** 399,)), (0, "out")),
                (((0,) * 12000, ()), (None, "rows"))):
            self.assertEqual(program_fault(8, value), expected, value)

    def test_changed_programs(self):
        for value in changed_values(A):
            found = program_fault(8, value)
            self.assertEqual(found, self.slow_fault(8, value), value)

    def slow_fault(self, width, value):
        if type(value) is not tuple or len(value) != 2 or type(value[0]) is not tuple or type(value[1]) is not tuple:
            return (None, "program")
        rows, outs = value
        for k, row in enumerate(rows):
            counts = {name: 1 for name in ORDER[1:9]} | {name: 2 for name in TWO} | {"number": 0, "pick": 3}
            if not row_is_told(width, row) or not all(x in range(4 + k) for x in row[1:1 + counts[row[0]]]):
                return (k, "row")
        if not 1 <= len(outs) <= 4:
            return (None, "outs")
        wrong = [k for k, out in enumerate(outs) if type(out) is not int or out not in range(4 + len(rows))]
        return (wrong[0], "out") if wrong else None


class RunTests(unittest.TestCase):
    def test_examples(self):
        self.assertEqual(run_program(8, A, (5, 0, 0, 0)), (45,))
        self.assertEqual(all_values(8, A, (5, 0, 0, 0)), (5, 0, 0, 0, 3, 15, 4, 60, 15, 45))

    def check(self, width, program, words):
        expected = slow_values(width, program, words)
        self.assertEqual(all_values(width, program, words), expected)
        self.assertEqual(run_program(width, program, words), tuple(expected[out] for out in program[1]))

    def test_each_operation_for_all_inputs_of_small_widths(self):
        for width in (1, 2):
            for row in each_row(width):
                for words in itertools.product(range(2 ** width), repeat=4):
                    self.check(width, ((row,), (4, 0)), words)
        for row in each_row(3):
            for words in itertools.product((0, 1, 3, 4, 5, 7), repeat=4):
                self.check(3, ((row,), (4,)), words)

    def test_all_widths(self):
        rng = some_random(70)
        for width in range(1, 65):
            top = 2 ** width - 1
            for count in (0, 5, 60):
                program = random_program(rng, width, count)
                for words in ((0,) * 4, (top,) * 4, tuple(rng.randrange(top + 1) for _ in range(4))):
                    self.check(width, program, words)

    def test_operations_as_in_expressions(self):
        rng = some_random(71)
        for width in (1, 8, 64):
            for row in each_row(width):
                if row[0] not in ("scale", "number"):
                    many = len(row) - 1 if row[0] in (*TWO, "pick") else 1
                    parts = [("name", value) for value in row[1:1 + many]]
                    for _ in range(10):
                        words = tuple(rng.choice((0, 1, 2 ** width - 1, rng.randrange(2 ** width))) for _ in range(4))
                        expected = value_at((row[0], *parts, *row[1 + many:]), width, words)
                        self.assertEqual(run_program(width, ((row,), (4,)), words), (expected,))

    def test_two_hundred_rows(self):
        rows = tuple(("add", 3 + k, 3 + k) for k in range(200))
        self.assertEqual(run_program(64, (rows, (203, 66, 4)), (0, 0, 0, 1)), (0, 2 ** 63, 2))
        self.assertEqual(len(all_values(64, (rows, (203,)), (0, 0, 0, 1))), 204)


class ClassTests(unittest.TestCase):
    def test_examples(self):
        self.assertEqual(class_numbers(A, N), ((0, 1, 2, 3, 4, 7, 5, 8, 7, 9), (0, 1, 2, 3, 6)))

    def check(self, program, other):
        found = class_numbers(program, other)
        self.assertEqual(found, slow_class_numbers(program, other))
        self.assertIs(check_classes(program, other, found), True)
        return found

    def test_random_programs(self):
        rng = some_random(72)
        for _ in range(150):
            width = rng.choice((1, 2, 8))
            program = random_program(rng, width, rng.randrange(10))
            other = rng.choice((random_program(rng, width, rng.randrange(10)), shuffled_program(rng, program)))
            found = self.check(program, other)
            # Values with the same class are equal for each input.
            for _ in range(3):
                words = tuple(rng.randrange(2 ** width) for _ in range(4))
                known = {}
                values = [*slow_values(width, program, words), *slow_values(width, other, words)]
                for number, value in zip([*found[0], *found[1]], values):
                    self.assertEqual(known.setdefault(number, value), value)

    def test_order(self):
        # Each row behind the next one in the order of classes, all in the wrong order.
        rows = (("pick", 0, 1, 2), ("same", 1, 0), ("same", 0, 0), ("less", 1, 0), ("less", 0, 1), ("xor", 0, 1),
                ("or", 0, 1), ("and", 0, 1), ("mul", 3, 2), ("mul", 0, 3), ("sub", 0, 1), ("add", 1, 1), ("add", 3, 0),
                ("scale", 0, 2, 0, 0), ("scale", 0, 1, 5, 0), ("scale", 0, 1, 0, 9), ("rem", 0, 3), ("quo", 0, 3),
                ("signed", 0, 1), ("right", 0, 1), ("left", 0, 2), ("left", 3, 1), ("left", 2, 1), ("neg", 0), ("not", 3),
                ("not", 2), ("number", 10), ("number", 2))
        program = (rows, (0,))
        ranks = self.check(program, ((), (0,)))[0]
        self.assertEqual(ranks[:4], (0, 1, 2, 3))
        # In the order of the classes same of 0 and 0 comes before same of 0 and 1; less of 0 and 1 before the other.
        self.assertEqual(sorted(ranks), list(range(4 + len(rows))))
        expected = sorted(range(len(rows)), key=lambda k: ranks[4 + k])
        self.assertEqual(expected[:3], [27, 26, 25])
        self.assertEqual(expected, list(range(len(rows)))[::-1])

    def test_height_before_all(self):
        rows = (("not", 0), ("not", 4), ("pick", 0, 0, 0), ("number", 5), ("add", 7, 0), ("add", 6, 0), ("not", 8))
        self.assertEqual(self.check((rows, (0,)), N), ((0, 1, 2, 3, 5, 9, 8, 4, 7, 11, 10), (0, 1, 2, 3, 6)))

    def test_even_rows(self):
        for name in TWO:
            rows = ((name, 0, 1), (name, 1, 0), (name, 4, 0), (name, 0, 5))
            found = self.check((rows, (0,)), (rows[1:2], (0,)))
            self.assertEqual(found[0][4] == found[0][5], name in EVEN)
            self.assertEqual(found[0][6] == found[0][7], name in EVEN)
            self.assertEqual(found[1][4], found[0][5])

    def test_further_numbers_and_places(self):
        rows = (("left", 0, 1), ("left", 0, 2), ("right", 0, 1), ("left", 0, 1), ("pick", 0, 1, 2), ("pick", 1, 0, 2),
                ("pick", 0, 2, 1), ("pick", 0, 1, 2), ("number", 1), ("number", 1), ("number", 0))
        found = self.check((rows, (0,)), ((), (0,)))[0]
        self.assertEqual(len(set(found)), 4 + len(rows) - 3)

    def test_deep_rows(self):
        one = tuple(("add", 3 + k if k else 0, 3 + k if k else 0) for k in range(200))
        found = class_numbers((one, (203,)), (one, (203,)))
        self.assertEqual(found, (tuple(range(204)), tuple(range(204))))
        other = tuple(("add", 3 + k if k else 0, 3 + k if k else 1) for k in range(200))
        found = class_numbers((one, (203,)), (other, (203,)))
        self.assertEqual(sorted({*found[0], *found[1]}), list(range(404)))

    def test_values_of_all_kinds(self):
        right = class_numbers(A, N)
        for value in [*odd_values(), Other(), Mask(4, 0, 0), [*right], (right[0], list(right[1])), right[0], (right[0],),
                      (*right, ()), (right[1], right[0]), (right[0][:-1], right[1]), ((), ())]:
            self.assertIs(check_classes(A, N, value), False)
        for value in changed_values(right):
            self.assertIs(check_classes(A, N, value), self.is_right(A, N, value), value)

    def is_right(self, program, other, value):
        """[71] by its words."""
        if type(value) is not tuple or len(value) != 2 or any(type(part) is not tuple for part in value):
            return False
        if [len(part) for part in value] != [4 + len(program[0]), 4 + len(other[0])]:
            return False
        labels, numbers = [*value[0], *value[1]], [number for part in slow_class_numbers(program, other) for number in part]
        if any(type(label) is not int for label in labels):
            return False
        return all((one == two) == (x == y) for (one, x), (two, y) in itertools.product(zip(labels, numbers), repeat=2))

    def test_any_integers_that_tell_the_classes_apart(self):
        right = class_numbers(A, N)
        for change in (lambda n: -n, lambda n: n + 10 ** 399, lambda n: (n * 7) % 11, lambda n: -(10 ** 399) * (n + 1)):
            self.assertIs(check_classes(A, N, tuple(tuple(change(n) for n in part) for part in right)), True)
        for change in (lambda n: n // 2, lambda n: 0, lambda n: min(n, 8), lambda n: max(n, 1)):
            self.assertIs(check_classes(A, N, tuple(tuple(change(n) for n in part) for part in right)), False)


class FoldTests(unittest.TestCase):
    def test_examples(self):
        rows = (("number", 3), ("number", 4), ("mul", 0, 4), ("mul", 5, 6), ("sub", 7, 6))
        self.assertEqual(folded_program(A), (rows, (8,)))

    def test_random_programs(self):
        rng = some_random(73)
        for _ in range(200):
            width = rng.choice((1, 2, 64))
            program = random_program(rng, width, rng.randrange(10))
            found = folded_program(program)
            self.assertEqual(found, slow_folded(program))
            self.assertIsNone(program_fault(width, found))
            self.assertEqual(folded_program(found), found)
            self.assertEqual(folded_program(shuffled_program(rng, program)), found)
            words = tuple(rng.randrange(2 ** width) for _ in range(4))
            self.assertEqual(run_program(width, found, words), slow_result(width, program, words))

    def test_same_folded_program_exactly_if_outs_have_the_same_classes(self):
        rng = some_random(74)
        for _ in range(300):
            pair = [random_program(rng, 1, 4, ("not", "and", "add", "number"), outs=1) for _ in range(2)]
            numbers = slow_class_numbers(*pair)
            same = [[numbers[k][out] for out in pair[k][1]] for k in (0, 1)]
            self.assertEqual(folded_program(pair[0]) == folded_program(pair[1]), same[0] == same[1])

    def test_rows_that_are_not_used(self):
        self.assertEqual(folded_program(((("neg", 0), ("not", 4), ("neg", 1)), (6, 2))), ((("neg", 1),), (4, 2)))
        self.assertEqual(folded_program(((("neg", 0),), (3, 3, 0, 1))), ((), (3, 3, 0, 1)))
        doubled = tuple(("add", 3 + k if k else 0, 3 + k if k else 0) for k in range(200))
        self.assertEqual(folded_program((doubled, (203,))), (doubled, (203,)))
        again = tuple(("add", 0, 0) if k < 100 else ("xor", 4 + k % 100, 1) for k in range(200))
        self.assertEqual(folded_program((again, (203, 4))), ((("add", 0, 0), ("xor", 1, 4)), (5, 4)))


class ExpressionTests(unittest.TestCase):
    def test_examples(self):
        found = program_of(4, ("add", ("name", 1), ("left", ("name", 0), 9)))
        self.assertEqual(found, ((("number", 0), ("add", 1, 4)), (5,)))

    def test_random_expressions(self):
        rng = some_random(75)
        for width in (1, 2, 3, 8, 33, 63, 64):
            for _ in range(40):
                expression = random_expression(rng, rng.randrange(1, 40))
                self.assertIsNone(expression_fault(expression))
                try:
                    found = program_of(width, expression)
                except TooLarge:
                    continue
                self.assertIsNone(program_fault(width, found))
                self.assertEqual(folded_program(found), found)
                self.assertEqual(len(found[1]), 1)
                for _ in range(5):
                    words = tuple(rng.choice((0, 2 ** width - 1, rng.randrange(2 ** width))) for _ in range(4))
                    self.assertEqual(run_program(width, found, words), (value_at(expression, width, words),))

    def test_amounts_and_divisors_at_and_beyond_the_width(self):
        a = ("name", 0)
        for width in (1, 2, 5, 63, 64):
            top = 2 ** width - 1
            for amount in (0, width - 1, width, width + 1, 63):
                if amount > 63:
                    continue
                wide = amount >= width
                for name in ("left", "right"):
                    expected = ((("number", 0),), (4,)) if wide else (((name, 0, amount),), (4,))
                    self.assertEqual(program_of(width, (name, a, amount)), expected)
                self.assertEqual(program_of(width, ("signed", a, amount)), ((("signed", 0, min(amount, width - 1)),), (4,)))
            for divisor in (1, top, top + 1, top + 2, 2 ** 64 - 1):
                if divisor > 2 ** 64 - 1:
                    continue
                wide = divisor > top
                expected = ((("number", 0),), (4,)) if wide else ((("quo", 0, divisor),), (4,))
                self.assertEqual(program_of(width, ("quo", a, divisor)), expected)
                expected = ((), (0,)) if wide else ((("rem", 0, divisor),), (4,))
                self.assertEqual(program_of(width, ("rem", a, divisor)), expected)
            for number in (0, top, top + 1, 2 ** 64 - 1):
                self.assertEqual(program_of(width, ("number", number)), ((("number", number & top),), (4,)))
        # What is dropped is not used; what remains is shared.
        deep = ("left", ("mul", ("name", 1), ("name", 2)), 40)
        self.assertEqual(program_of(8, ("add", deep, deep)), ((("number", 0), ("add", 4, 4)), (5,)))
        self.assertEqual(program_of(8, ("rem", ("rem", ("neg", a), 256), 300)), ((("neg", 0),), (4,)))
        self.assertEqual(program_of(2, parse_expression("a + 4 * (7 - b)")),
                         ((("number", 0), ("number", 3), ("sub", 5, 1), ("mul", 4, 6), ("add", 0, 7)), (8,)))
        self.assertEqual(program_of(8, parse_expression("(a + b) * (b + a)")), ((("add", 0, 1), ("mul", 4, 4)), (5,)))
        self.assertEqual(program_of(8, ("name", 3)), ((), (3,)))

    def test_too_large(self):
        def sum_of(count):
            expression = ("name", 0)
            for k in range(count):
                expression = ("add", expression, ("number", k + 1))
            return expression
        def balanced(parts):
            if len(parts) == 1:
                return parts[0]
            return ("xor", balanced(parts[:len(parts) // 2]), balanced(parts[len(parts) // 2:]))
        for parts, rows in ((30, 59), (31, 61)):
            expression = balanced([("quo", ("name", 0), k + 2) for k in range(parts)])
            if rows <= 60:
                self.assertEqual(len(program_of(64, expression)[0]), rows)
            else:
                self.assert_too_large(expression)
        self.assertEqual(len(program_of(64, ("neg", balanced([("quo", ("name", 0), k + 2) for k in range(30)])))[0]), 60)
        self.assert_too_large(("not", ("neg", balanced([("quo", ("name", 0), k + 2) for k in range(30)]))))
        # Fewer rows remain at a lesser width, and where nodes are the same.
        self.assertLess(len(program_of(2, balanced([("quo", ("name", 0), k + 2) for k in range(31)]))[0]), 61)
        self.assertLess(len(program_of(64, bush(200))[0]), 61)
        self.assertEqual(len(program_of(64, sum_of(30))[0]), 60)
        self.assert_too_large(sum_of(31))

    def assert_too_large(self, expression):
        with self.assertRaises(TooLarge) as caught:
            program_of(64, expression)
        self.assertEqual(caught.exception.limit, 60)

    def test_texts_of_programs(self):
        rng = some_random(76)
        for width in (1, 8, 64):
            for count in (0, 9, 60):
                program = random_program(rng, width, count)
                self.assertEqual(parse_program(format_program(width, program)), (width, program))


if __name__ == "__main__":
    unittest.main()
