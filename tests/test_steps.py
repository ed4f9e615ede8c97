"""[75] Steps."""

import itertools
import unittest

from tests.helpers import Other, changed_values, odd_values, some_random
from tests.slow_programs import ORDER, all_inputs, random_program, random_row, shuffled_program, slow_values
from tests.slow_steps import row_is_told, slow_reason, slow_step
from wordsalike.divisors import least_shift
from wordsalike.errors import BadStep
from wordsalike.masks import Mask
from wordsalike.papers import after_step
from wordsalike.programs import run_program

A = ((("number", 3), ("mul", 0, 4), ("number", 4), ("mul", 5, 6), ("mul", 4, 0), ("sub", 7, 8)), (9,))
BARE = [(word,) for word in ("same", "worked", "rule", "shift", "quotient", "scale")]


def outcome(width, program, value):
    """The program after a step, or the reason of BadStep."""
    try:
        return after_step(width, program, value)
    except BadStep as error:
        return error.reason


class ExampleTests(unittest.TestCase):
    def test_examples(self):
        self.assertEqual(after_step(8, A, ("use", 9, 1, 5, ("same",)))[0][5], ("sub", 7, 5))
        self.assertEqual(after_step(8, A, ("use", 10, 0, 9, ("same",)))[1], (9,))
        with self.assertRaises(BadStep) as caught:
            after_step(8, A, ("delete", 8))
        self.assertEqual(caught.exception.reason, "used")


class FormTests(unittest.TestCase):
    def test_values_of_all_kinds(self):
        for value in [*odd_values(), Other(), Mask(4, 0, 0), A, ("insert",), ("delete",), ("use",), ("delete", 4, 4),
                      ["delete", 8], (["delete"], 8), ("Delete", 8), ("delete", True), ("delete", "8"), ("delete", None),
                      ("use", 9, 1, 5), ("use", 9, 1, 5, "same"), ("use", 9, 1, 5, ["same"]), ("use", 9, 1, 5, ()),
                      ("use", 9, 1, 5, ("same", ())), ("use", 9, 1, 5, ("Same",)), ("use", 9, 1, 5, ("mix",)),
                      ("use", 9, 1, 5, ("mix", ())), ("use", 9, 1, 5, ("mix", (0, 1, 2, 3, 4))),
                      ("use", 9, 1, 5, ("mix", (0, 0))), ("use", 9, 1, 5, ("mix", (1, 0))), ("use", 9, 1, 5, ("mix", [0])),
                      ("use", 9, 1, 5, ("mix", 0)), ("use", 9, 1, 5, ("mix", (True,))), ("use", 9, 1, 5, ("mix", (0,), 1)),
                      ("use", 9, 1, 5, ("polynomial",)), ("use", 9, 1, 5, ("polynomial", (0,))),
                      ("use", 9, 1, 5, ("polynomial", True)), ("use", 9, 1, 5, ("polynomial", 0, 0)),
                      ("use", True, 1, 5, ("same",)), ("use", 9, True, 5, ("same",)), ("use", 9, 1, False, ("same",)),
                      ("use", 9, 1, 5, (["same"],)), ("use", 9, 1, 5, ({},)), ("use", 9, 1, 5, ("same",), 0),
                      ("insert", 4, None), ("insert", 4, ()), ("insert", 4, [("number", 3)]), ("insert", None, ("neg", 0)),
                      ("insert", 4, ("neg", 0), 0), ("insert", 4, ["neg", 0]), ("insert", 4, ("neg", True)),
                      ("insert", 4, ("neg", None)), ("insert", 4, (["neg"], 0)), ("insert", 4, ("name", 0))]:
            self.assertEqual(outcome(8, A, value), "step", value)

    def test_changed_values(self):
        steps = [("insert", 7, ("scale", 0, 3, 3, 4)), ("insert", 9, ("pick", 0, 1, 5)), ("delete", 9), ("delete", 8),
                 ("use", 9, 1, 5, ("same",)), ("use", 9, 1, 5, ("mix", (0, 1, 4))), ("use", 9, 1, 5, ("polynomial", 0)),
                 ("use", 10, 0, 9, ("rule",)), ("use", 7, 0, 8, ("same",))]
        for step in steps:
            for value in [step, *changed_values(step)]:
                self.assertEqual(outcome(8, A, value), slow_step(8, A, value), value)

    def test_rows_at_and_beyond_their_bounds(self):
        for width in (1, 2, 63, 64):
            program = ((("neg", 0),), (4, 3))
            top = 2 ** width - 1
            counts = {"number": 0, "not": 1, "neg": 1, "add": 2, "same": 2, "pick": 3}
            bounds = {"number": (0, top), "left": (0, width - 1), "right": (0, width - 1), "signed": (0, width - 1),
                      "quo": (1, top), "rem": (1, top)}
            rows = [(name, *[0] * (counts.get(name, 2) + more)) for name in ORDER for more in (-1, 0, 1)]
            for name, (low, high) in bounds.items():
                operands = () if name == "number" else (3,)
                rows.extend((name, *operands, number) for number in (low - 1, low, high, high + 1, True, None, "1", 10 ** 399))
            ends = ((-1, 0, top, top + 1), (-1, 0, top, top + 1), (-1, 0, 2 * width, 2 * width + 1))
            rows.extend(("scale", 4, *numbers) for numbers in itertools.product(*ends))
            for row in rows:
                value = ("insert", 5, row)
                self.assertEqual(outcome(width, program, value), slow_step(width, program, value), (width, row))
                self.assertEqual(outcome(width, program, value) == "step", not row_is_told(width, row))
                # The numbers make a row, but not its operands.
                far = ("insert", 5, (row[0], *[item + 10 ** 30 if type(item) is int else item for item in row[1:2]], *row[2:]))
                self.assertEqual(outcome(width, program, far), slow_step(width, program, far), far)


class PlaceTests(unittest.TestCase):
    def test_each_kind_of_step_at_all_places(self):
        rng = some_random(75)
        for width, count in ((8, 0), (1, 1), (8, 3), (64, 6)):
            program = random_program(rng, width, count)
            many = count + 4
            for at in range(-2, many + 3):
                self.check(width, program, ("delete", at))
                for operand in range(-2, many + 2):
                    self.check(width, program, ("insert", at, ("neg", operand)))
                    self.check(width, program, ("insert", at, ("sub", 0, operand)))
                self.check(width, program, ("insert", at, ("number", 1)))
                for place, other in itertools.product(range(-1, 5), range(-1, many + 2)):
                    self.check(width, program, ("use", at, place, other, ("same",)))
        far = 10 ** 399
        for value in (("delete", far), ("delete", -far), ("insert", far, ("number", 0)), ("use", far, 0, 0, ("same",)),
                      ("use", 10, far, 0, ("same",)), ("use", 10, 0, -far, ("same",)), ("insert", 4, ("neg", far)),
                      ("use", 10, 0, 9, ("mix", (far,))), ("use", 10, 0, 9, ("polynomial", -far))):
            self.assertEqual(outcome(8, A, value), "place")

    def check(self, width, program, value):
        self.assertEqual(outcome(width, program, value), slow_step(width, program, value), (program, value))

    def test_leaves(self):
        for leaf in range(-2, 13):
            for value in (("use", 10, 0, 9, ("mix", (leaf,))), ("use", 10, 0, 9, ("polynomial", leaf)),
                          ("use", 9, 1, 5, ("mix", (leaf, 20))), ("use", 9, 1, 5, ("mix", (-9, leaf)))):
                self.assertEqual(outcome(8, A, value), slow_step(8, A, value), value)
        # A leaf may stand behind the place.
        self.assertEqual(outcome(8, A, ("use", 9, 1, 5, ("mix", (0, 9))))[0][5], ("sub", 7, 5))
        self.assertEqual(outcome(8, A, ("use", 9, 1, 5, ("mix", (0, 10)))), "place")

    def test_many_rows(self):
        for count in (198, 199, 200):
            program = (tuple(("neg", 3 + k) for k in range(count)), (count + 3,))
            for value in (("insert", count + 4, ("not", 0)), ("insert", 4, ("number", 1)), ("insert", 100, ("neg", 99))):
                found = outcome(8, program, value)
                self.assertEqual(found, slow_step(8, program, value))
                self.assertEqual(found == "many", count == 200)
            for value in (("insert", 999, ("not", 0)), ("insert", 4, ("not", 4))):
                self.assertEqual(outcome(8, program, value), "many" if count == 200 else "place")
            self.assertEqual(outcome(8, program, ("insert", 4, ("number", 256))), "step")
            self.assertEqual(outcome(8, program, ("delete", count + 3)), "used")
            self.assertEqual(outcome(8, program, ("use", count + 4, 0, count + 1, ("rule",)))[1], (count + 1,))

    def test_errors_in_their_order(self):
        for value, reason in ((("use", 99, 0, 0, ("mix", ())), "step"), (("use", 99, 0, 0, ("worked",)), "place"),
                              (("use", 10, 0, 0, ("mix", (10,))), "place"), (("use", 10, 0, 0, ("worked",)), "why"),
                              (("delete", 10), "place"), (("delete", 4), "used"), (("delete", 9), "used"),
                              (("insert", 4, ("neg", 4)), "place"), (("insert", 11, ("neg", 4)), "place")):
            self.assertEqual(outcome(8, A, value), reason)

    def test_rows_behind_move(self):
        found = after_step(8, A, ("insert", 6, ("left", 5, 1)))
        self.assertEqual(found, ((("number", 3), ("mul", 0, 4), ("left", 5, 1), ("number", 4), ("mul", 5, 7), ("mul", 4, 0),
                                  ("sub", 8, 9)), (10,)))
        self.assertEqual(after_step(8, found, ("delete", 6)), A)
        self.assertEqual(after_step(8, ((), (0, 3)), ("insert", 4, ("number", 7))), ((("number", 7),), (0, 3)))


class ReasonTests(unittest.TestCase):
    def check(self, width, rows, whys, inputs):
        """All pairs of values for some reasons; returns the pairs of different values that are equal."""
        many = len(rows) + 4
        known = [slow_values(width, (rows, (0,)), words) for words in inputs]
        found = set()
        for i, j, why in itertools.product(range(many), range(many), whys):
            result = outcome(width, (rows, (0, i)), ("use", many, 1, j, why))
            expected = slow_reason(width, rows, i, j, why)
            self.assertEqual(result, (rows, (0, j)) if expected else "why", (width, rows, i, j, why))
            if expected:
                # What is accepted is right.
                self.assertTrue(all(values[i] == values[j] for values in known))
                if i != j:
                    found.add((i, j, why[0]))
        # Each reason holds in both directions.
        self.assertTrue(all((j, i, word) in found for i, j, word in found))
        return found

    def some_inputs(self, rng, width):
        if width == 1:
            return all_inputs(1)
        return [tuple(rng.choice((0, 1, 2 ** width - 1, rng.randrange(2 ** width))) for _ in range(4)) for _ in range(40)]

    def test_bare_reasons(self):
        rng = some_random(76)
        count = {word: 0 for (word,) in BARE}
        for width in (1, 2, 3, 8, 64):
            for _ in range(24):
                rows = random_program(rng, width, 8)[0]
                for _, _, word in self.check(width, rows, BARE, self.some_inputs(rng, width)):
                    count[word] += 1
        self.assertTrue(all(count[word] > 10 for word in ("same", "worked")) and count["rule"] > 300, count)

    def test_rules_over_rules(self):
        rng = some_random(77)
        operations = ("number", "not", "neg", "and", "or", "xor", "less", "same", "pick", "sub", "scale", "rem")
        count = 0
        for width in (1, 2, 64):
            for _ in range(12):
                rows = [("number", 0), ("number", 2 ** width - 1), ("number", 1)]
                while len(rows) < 12:
                    rows.append(random_row(rng, width, 4 + len(rows), operations, recent=8))
                count += len(self.check(width, tuple(rows), [("rule",), ("same",)], self.some_inputs(rng, width)))
        self.assertGreater(count, 300)

    def test_shifts_and_quotients(self):
        rng = some_random(78)
        count = {"shift": 0, "quotient": 0}
        for width in (1, 2, 3, 8, 64):
            for _ in range(14):
                power = 2 ** rng.randrange(width)
                rows = [("number", power), ("number", power - 1), ("number", 0), ("mul", 0, 4), ("mul", 4, 0),
                        ("left", 0, rng.randrange(width)), ("rem", 0, power), ("and", 0, 5), ("and", 5, 0), ("quo", 0, power),
                        ("mul", 4, 4)]
                while len(rows) < 20:
                    x = rng.choice((0, 1, rng.randrange(4 + len(rows))))
                    k = min(rng.choice((1, 2, 3, 4, 6, power, power * 2, 2 ** width - 1)), 2 ** width - 1)
                    s = rng.choice((power.bit_length() - 1, rng.randrange(width)))
                    rows.append(rng.choice((("quo", x, k), ("right", x, s), ("quo", x, k), ("left", x, s), ("rem", x, k))))
                found = self.check(width, tuple(rows), [("shift",), ("quotient",)], self.some_inputs(rng, width))
                for _, _, word in found:
                    count[word] += 1
        self.assertTrue(count["shift"] > 300 and count["quotient"] > 30, count)

    def test_scales(self):
        rng = some_random(79)
        count = 0
        for width in (1, 2, 3, 4, 8, 64):
            top = 2 ** width - 1
            for d in [d for d in (1, 2, 3, 5, 7, 10, 16, top, top // 2, rng.randrange(1, top + 1)) if 0 < d <= top]:
                rows = [("quo", 0, d), ("quo", 1, d)]
                for kind in ("plain", "raised") if d > 1 else ("plain",):
                    m, s = least_shift(d, top, kind=kind) if d > 1 else (1, 0)
                    for more in (0, 1, -1):
                        for shift in (s, s - 1, s + 1):
                            if 0 <= m + more <= top and 0 <= shift <= 2 * width:
                                rows.extend(("scale", 0, m + more, n, shift) for n in (0, m + more))
                rows.extend([("scale", 0, 1, 1, 0), ("scale", 1, 1, 0, 0), ("scale", 0, 0, 0, 0), ("scale", 0, top, top, width),
                             ("scale", 0, top, 0, 2 * width)])
                inputs = [(x, top - x, 0, 0) for x in (0, 1, d - 1, d, top, top - 1, top // d * d, top // d * d - 1)]
                count += len(self.check(width, tuple(rows), [("scale",)], [words for words in inputs if min(words) >= 0]))
        self.assertGreater(count, 60)

    def test_scale_against_all_words(self):
        for width in (1, 2, 3, 4):
            top = 2 ** width - 1
            for d in range(1, top + 1):
                for m, s, raised in itertools.product(range(top + 1), range(2 * width + 1), (False, True)):
                    n = m if raised else 0
                    rows = (("quo", 3, d), ("scale", 3, m, n, s))
                    right = all(((m * x + n) // 2 ** s) % 2 ** width == x // d for x in range(top + 1))
                    found = outcome(width, (rows, (4,)), ("use", 6, 0, 5, ("scale",)))
                    self.assertEqual(found, (rows, (5,)) if right else "why", (width, d, m, n, s))

    def leaves_of(self, rng, many):
        return tuple(sorted(rng.sample(range(many), rng.randrange(1, 5))))

    def test_mixes(self):
        rng = some_random(80)
        operations = ("number", "not", "neg", "left", "add", "sub", "mul", "and", "or", "xor")
        count = 0
        for width in (1, 2, 3, 8, 64):
            for _ in range(8):
                rows = random_program(rng, width, 7, (*operations, rng.choice(ORDER)))[0]
                rows = (*rows, ("add", 0, 1), ("xor", 0, 1), ("and", 1, 0), ("left", 13, min(1, width - 1)), ("add", 12, 14),
                        ("sub", 11, 15), ("or", 0, 1))
                whys = [("mix", self.leaves_of(rng, len(rows) + 4)) for _ in range(3)]
                found = self.check(width, rows, [*whys, ("mix", (0, 1, 2, 3))], self.some_inputs(rng, width))
                count += len(found)
        self.assertGreater(count, 300)

    def test_polynomials(self):
        rng = some_random(81)
        operations = ("number", "not", "neg", "left", "add", "sub", "mul", "mul")
        count = 0
        for width in (1, 2, 3, 8, 64):
            for _ in range(8):
                rows = random_program(rng, width, 6, (*operations, rng.choice(ORDER)))[0]
                rows = (*rows, ("mul", 0, 0), ("mul", 10, 0), ("mul", 10, 10), ("sub", 10, 0), ("add", 0, 10), ("mul", 13, 14),
                        ("sub", 12, 10))
                whys = [("polynomial", leaf) for leaf in (0, rng.randrange(4), rng.randrange(len(rows) + 4))]
                found = self.check(width, rows, whys, self.some_inputs(rng, width))
                count += len(found)
        self.assertGreater(count, 150)

    def test_operands_too(self):
        rng = some_random(82)
        accepted = 0
        for width in (1, 2, 8, 64):
            for _ in range(40):
                program = shuffled_program(rng, random_program(rng, width, 5))
                program = ((*program[0], *[("number", 0)] * 10)[:10], program[1])
                for _ in range(160):
                    at = rng.randrange(4, 15)
                    why = rng.choice([*BARE, ("mix", (0, 1, 2, 3)), ("mix", self.leaves_of(rng, 14)), ("polynomial", 0)])
                    value = ("use", at, rng.randrange(3), rng.randrange(14), why)
                    found = outcome(width, program, value)
                    self.assertEqual(found, slow_step(width, program, value))
                    if isinstance(found, tuple):
                        accepted += found != program
                        words = tuple(rng.randrange(2 ** width) for _ in range(4))
                        self.assertEqual(run_program(width, found, words), run_program(width, program, words))
        self.assertGreater(accepted, 40)


class DeepTests(unittest.TestCase):
    """Rows that stand over one another: the expression that is read has very many nodes."""

    def check(self, program, value, expected):
        found = outcome(64, program, value)
        self.assertEqual(found if isinstance(found, str) else "yes", expected)

    def test_mixes(self):
        # 64 times doubled is 0; one time less is not.
        doubled = tuple(("add", 3 + k if k else 0, 3 + k if k else 0) for k in range(198))
        rows = (*doubled, ("number", 0), ("left", 64, 3))
        for at, expected in ((201, "yes"), (67, "yes"), (66, "why")):
            self.check((rows, (at,)), ("use", 204, 0, 202, ("mix", (0,))), expected)
            self.check((rows, (at,)), ("use", 204, 0, 202, ("polynomial", 0)), expected)
            self.check((rows, (at,)), ("use", 204, 0, 202, ("mix", (0, 1, 2, 3))), expected)
        self.check((rows, (203,)), ("use", 204, 0, 67, ("mix", (0,))), "yes")
        self.check((rows, (203,)), ("use", 204, 0, 66, ("mix", (0,))), "why")

    def test_bitwise_towers(self):
        rows = [("xor", 0, 1), ("and", 0, 1)]
        while len(rows) < 198:
            rows.append(("xor", len(rows) + 3, len(rows) + 2) if len(rows) % 2 else ("or", len(rows) + 3, len(rows) + 2))
        program = ((*rows, ("not", 201), ("not", 202)), (203,))
        self.check(program, ("use", 204, 0, 201, ("mix", (0, 1))), "yes")
        self.check(program, ("use", 204, 0, 202, ("mix", (0, 1))), "why")
        self.check(program, ("use", 204, 0, 201, ("mix", (0, 2))), "why")

    def test_powers(self):
        # x ** (2 ** 99) and its product with x ** (2 ** 99): squares of odd words come near 1.
        squares = tuple(("mul", 3 + k if k else 0, 3 + k if k else 0) for k in range(99))
        rows = (*squares, ("mul", 102, 0), ("mul", 102, 102), ("sub", 102, 104), ("number", 0), ("mul", 105, 0),
                ("left", 105, 1), ("sub", 0, 0))
        for out, other, expected in ((105, 106, "yes"), (107, 106, "yes"), (102, 104, "yes"), (103, 0, "why"),
                                     (102, 101, "yes"), (4, 5, "why"), (108, 109, "yes"), (103, 102, "why")):
            self.check((rows, (out,)), ("use", len(rows) + 4, 0, other, ("polynomial", 0)), expected)

    def test_nothing_else_than_leaves_and_numbers(self):
        rows = (("add", 0, 1), ("add", 1, 0), ("less", 0, 1), ("add", 6, 4), ("add", 4, 6), ("number", 5), ("number", 2),
                ("number", 3), ("add", 10, 11))
        for i, j, why, expected in ((4, 5, ("mix", (0,)), "why"), (4, 5, ("mix", (0, 1)), "yes"), (7, 8, ("mix", (0, 1)), "why"),
                                    (7, 8, ("mix", (0, 1, 6)), "yes"), (7, 8, ("mix", (4, 6)), "yes"),
                                    (7, 8, ("polynomial", 0), "why"), (4, 5, ("polynomial", 0), "why"),
                                    (9, 12, ("mix", (3,)), "yes"), (9, 12, ("polynomial", 3), "yes"),
                                    (9, 12, ("polynomial", 12), "why"), (9, 12, ("mix", (9, 12)), "why"),
                                    (0, 0, ("mix", (1,)), "why"), (0, 0, ("mix", (0,)), "yes"), (0, 0, ("polynomial", 1), "why"),
                                    (0, 0, ("same",), "yes"), (0, 1, ("same",), "why"), (7, 8, ("same",), "yes")):
            program = (rows, (i,))
            self.check(program, ("use", len(rows) + 4, 0, j, why), expected)


if __name__ == "__main__":
    unittest.main()
