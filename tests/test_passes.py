"""[73], [77], [78] Short programs, the papers that lead to them, and programs compared."""

import itertools
import unittest

from tests.helpers import some_random
from tests.slow_mixes import one_bit_input
from tests.slow_programs import (COUNTS, EVEN, ORDER, all_inputs, parts_of_row, random_program, random_row,
                                 shuffled_program, slow_folded, slow_result, slow_short)
from tests.slow_steps import expression_of, polynomial_of
from wordsalike.errors import NotMix, UnlikePrograms
from wordsalike.mixes import mix_form
from wordsalike.papers import check_paper, turned_paper
from wordsalike.passes import compare_programs, short_paper, short_program
from wordsalike.programs import folded_program, program_fault, program_of, run_program
from wordsalike.reduced import reduced_form
from wordsalike.texts import parse_expression

A = ((("number", 3), ("mul", 0, 4), ("number", 4), ("mul", 5, 6), ("mul", 4, 0), ("sub", 7, 8)), (9,))


def one_row(width, *rows):
    """The short program whose out is the last of some rows."""
    return short_program(width, (rows, (3 + len(rows),)))


def some_program(rng, width, count):
    """A program in which many rules and much working can be used."""
    rows = [("number", 0), ("number", 2 ** width - 1), ("number", min(1, 2 ** width - 1))][:count]
    while len(rows) < count:
        rows.append(random_row(rng, width, 4 + len(rows), ORDER, recent=5))
    return (tuple(rows), tuple(rng.randrange(max(0, count - 3), 4 + count) for _ in range(rng.randrange(1, 5))))


class ShortTests(unittest.TestCase):
    def test_example(self):
        program = ((("number", 0), ("add", 0, 4), ("sub", 5, 0), ("mul", 6, 0)), (5, 7))
        self.assertEqual(short_program(8, program), ((("number", 0),), (0, 4)))

    def check(self, width, program, rng):
        found = short_program(width, program)
        self.assertEqual(found, slow_short(width, program, rng), (width, program))
        self.assertIsNone(program_fault(width, found))
        self.assertEqual((short_program(width, found), folded_program(found)), (found, found))
        self.assertLessEqual(len(found[0]), len(program[0]))
        for _ in range(3):
            words = tuple(rng.choice((0, 2 ** width - 1, rng.randrange(2 ** width))) for _ in range(4))
            self.assertEqual(run_program(width, found, words), slow_result(width, program, words))
        return found

    def test_rules_in_any_order(self):
        rng = some_random(73)
        shorter = 0
        for _ in range(300):
            width = rng.choice((1, 2, 3, 8, 64))
            program = rng.choice((some_program, random_program))(rng, width, rng.randrange(12))
            found = self.check(width, program, rng)
            shorter += len(found[0]) < len(slow_folded(program)[0])
            self.assertEqual(short_program(width, shuffled_program(rng, program)), found)
        self.assertGreater(shorter, 60)

    def test_each_rule(self):
        for width in (1, 2, 8, 64):
            top = 2 ** width - 1
            x, zero = ((), (2,)), ((("number", 0),), (4,))
            numbers = {"0": ("number", 0), "1": ("number", 1), "-1": ("number", top)}
            for name, word in (("add", "0"), ("sub", "0"), ("mul", "1"), ("and", "-1"), ("or", "0"), ("xor", "0")):
                self.assertEqual(one_row(width, numbers[word], (name, 2, 4)), x)
                if name in EVEN:
                    self.assertEqual(one_row(width, numbers[word], (name, 4, 2)), x)
            for row in (("left", 2, 0), ("right", 2, 0), ("signed", 2, 0), ("quo", 2, 1), ("scale", 2, 1, 0, 0),
                        ("and", 2, 2), ("or", 2, 2), ("pick", 1, 2, 2)):
                self.assertEqual(one_row(width, row), x)
            for name in ("not", "neg"):
                self.assertEqual(one_row(width, (name, 2), (name, 4)), x)
                self.assertEqual(len(one_row(width, (name, 2), (name, 4), (name, 5))[0]), 1)
            for row in (("rem", 2, 1), ("sub", 2, 2), ("xor", 2, 2), ("less", 2, 2)):
                self.assertEqual(one_row(width, row), zero)
            for name, word in (("mul", "0"), ("and", "0")):
                self.assertEqual(one_row(width, numbers[word], (name, 2, 4)), zero)
                self.assertEqual(one_row(width, numbers[word], (name, 4, 2)), zero)
            self.assertEqual(one_row(width, numbers["0"], ("less", 2, 4)), zero)
            self.assertEqual(one_row(width, numbers["-1"], ("less", 4, 2)), zero)
            for row in (("or", 2, 4), ("or", 4, 2)):
                self.assertEqual(one_row(width, numbers["-1"], row), ((("number", top),), (4,)))
            self.assertEqual(one_row(width, ("same", 2, 2)), ((("number", 1),), (4,)))
            for word, expected in (("0", 3), ("1", 2), ("-1", 2)):
                self.assertEqual(one_row(width, numbers[word], ("pick", 4, 2, 3)), ((), (expected,)))

    def test_what_is_no_rule(self):
        zero, one, top = ("number", 0), ("number", 1), ("number", 255)
        for rows in ((zero, ("sub", 4, 2)), (zero, ("less", 4, 2)), (top, ("less", 2, 4)), (one, ("sub", 2, 4)),
                     (zero, ("same", 2, 4)), (top, ("xor", 2, 4)), (top, ("mul", 2, 4)), (top, ("add", 2, 4)), (("number", 2),
                     ("mul", 2, 4)), (("less", 2, 3),), (("scale", 2, 1, 0, 1),), (("scale", 2, 1, 1, 0),), (("scale", 2, 0, 0, 0),),
                     (("not", 2), ("neg", 4)), (("neg", 2), ("not", 4)), (("pick", 2, 3, 1),), (("pick", 2, 2, 1),), (("add", 2, 2),),
                     (("left", 2, 1),), (("quo", 2, 2),), (("rem", 2, 255),), (one, ("and", 2, 4)), (("not", 2), ("and", 2, 4)),
                     (("scale", 2, 0, 1, 0),), (one, ("or", 2, 4)), (("neg", 2), ("add", 2, 4)), (zero, ("pick", 2, 4, 3))):
            self.assertEqual(one_row(8, *rows), folded_program((rows, (3 + len(rows),))), rows)

    def test_working(self):
        rng = some_random(74)
        for width in (1, 2, 8, 64):
            for _ in range(60):
                rows = [("number", rng.randrange(2 ** width)) for _ in range(3)]
                row = random_row(rng, width, 4, [name for name in ORDER if COUNTS[name] > 0])
                operation, operands, numbers = parts_of_row(row)
                row = (operation, *[4 + value % 3 for value in operands], *numbers)
                expected = slow_result(width, ((*rows, row), (7,)), (0, 0, 0, 0))
                self.assertEqual(one_row(width, *rows, row), ((("number", expected[0]),), (4,)))

    def test_rules_that_lead_to_further_ones(self):
        # (a xor a) is 0, a + 0 is a, a - a is 0, pick of 0 is its last one, which is not not b.
        rows = (("xor", 0, 0), ("add", 0, 4), ("sub", 5, 0), ("not", 1), ("not", 7), ("pick", 6, 0, 8), ("same", 9, 1),
                ("pick", 10, 2, 3), ("left", 10, 0), ("mul", 11, 12))
        self.assertEqual(one_row(8, *rows), ((), (2,)))
        # Numbers that come of rules are worked with.
        rows = (("same", 0, 0), ("add", 4, 4), ("mul", 5, 5), ("less", 5, 6), ("sub", 7, 4), ("or", 3, 8))
        self.assertEqual(one_row(64, *rows), ((), (3,)))
        rows = (("neg", 0), ("neg", 4), ("not", 5), ("not", 6), ("xor", 7, 0), ("or", 8, 1), ("and", 9, 9))
        self.assertEqual(one_row(64, *rows), ((), (1,)))

    def test_picks_over_one_another(self):
        rows = (("pick", 0, 1, 1), ("pick", 4, 2, 3), ("pick", 1, 2, 3), ("pick", 3, 5, 6), ("number", 2), ("pick", 8, 7, 0),
                ("rem", 9, 1), ("pick", 10, 1, 9))
        self.assertEqual(one_row(8, *rows), ((("pick", 1, 2, 3),), (4,)))
        tower = [("pick", 0, 1, 1)]
        while len(tower) < 60:
            tower.append(("pick", 3 + len(tower), 3 + len(tower), 1))
        self.assertEqual(one_row(64, *tower), ((), (1,)))

    def test_sixty_rows_each_over_the_one_before(self):
        rows = [("neg", 0)]
        while len(rows) < 60:
            rows.append(("neg", 3 + len(rows)))
        self.assertEqual(one_row(64, *rows), ((), (0,)))
        self.assertEqual(one_row(64, *rows[:59]), ((("neg", 0),), (4,)))
        doubled = tuple(("add", 3 + k if k else 0, 3 + k if k else 0) for k in range(60))
        self.assertEqual(short_program(8, (doubled, (63,))), (doubled, (63,)))

    def test_rows_that_are_not_used(self):
        self.assertEqual(short_program(8, ((("number", 7), ("neg", 0)), (0, 3))), ((), (0, 3)))
        self.assertEqual(short_program(8, ((), (3, 3))), ((), (3, 3)))


class ShortPaperTests(unittest.TestCase):
    def check(self, width, program):
        short = short_program(width, program)
        paper = short_paper(width, program)
        self.assertEqual(type(paper), tuple)
        self.assertLessEqual(len(paper), 400)
        self.assertIs(check_paper(width, program, paper, short), True)
        self.assertEqual(paper == (), short == program)
        reasons = {step[4][0] for step in paper if step[0] == "use"}
        self.assertLessEqual(reasons, {"same", "worked", "rule"})
        return len(paper)

    def test_example(self):
        self.assertIs(check_paper(8, A, short_paper(8, A), short_program(8, A)), True)

    def test_random_programs(self):
        rng = some_random(77)
        for _ in range(150):
            width = rng.choice((1, 2, 3, 8, 64))
            count = rng.choice((0, 1, 5, 12, 30, 59, 60))
            self.check(width, rng.choice((some_program, random_program))(rng, width, count))

    def test_long_papers(self):
        rng = some_random(78)
        longest = 0
        for width in (2, 8, 64):
            for operations in (("pick",), ("pick", "number"), ("number", "add", "mul", "pick"), ("pick", "less", "same")):
                for _ in range(5):
                    longest = max(longest, self.check(width, random_program(rng, width, 60, operations, outs=4)))
        # Picks whose operands all change, then numbers, each worked out of the ones before.
        rows = [("same", 0, 0), ("add", 4, 4)]
        while len(rows) < 60:
            rows.append(("pick", 3 + len(rows), 2 + len(rows), 3 + len(rows)) if len(rows) % 3 else ("mul", 5, 3 + len(rows)))
        longest = max(longest, self.check(64, (tuple(rows), (63, 62, 61, 60))))
        self.assertGreater(longest, 100)

    def test_its_own_short_program(self):
        for program in (((), (0,)), ((), (3, 3, 1, 0)), ((("number", 5),), (4,)), ((("neg", 0), ("add", 1, 4)), (5, 4))):
            self.assertEqual((short_program(8, program), short_paper(8, program)), (program, ()))
        for program in (((("neg", 0), ("add", 4, 1)), (5,)), ((("neg", 0),), (1,)), ((("not", 1), ("not", 0)), (4, 5))):
            self.assertNotEqual(short_program(8, program), program)
            self.check(8, program)

    def test_rows_that_vanish(self):
        # 0 times something, and the difference of two rows that are the same only when both are short.
        for rows in ((("neg", 0), ("number", 0), ("mul", 4, 5)), (("neg", 0), ("neg", 0), ("add", 4, 1), ("add", 1, 5), ("sub", 6, 7)),
                     (("same", 0, 0), ("neg", 1), ("pick", 4, 2, 5)), (("number", 1), ("number", 1), ("sub", 4, 5), ("add", 0, 6)),
                     (("add", 0, 1), ("quo", 4, 1), ("left", 4, 0), ("xor", 5, 6), ("not", 7), ("and", 3, 8)),
                     (("number", 3), ("number", 4), ("mul", 4, 5), ("sub", 6, 6), ("less", 2, 7)),
                     (("not", 0), ("not", 4), ("neg", 5), ("neg", 0), ("less", 6, 7), ("pick", 8, 6, 7))):
            for out in range(4 + len(rows)):
                self.check(8, (rows, (out,)))
                self.check(8, (rows, (3 + len(rows), out)))


class CompareTests(unittest.TestCase):
    def special_inputs(self, width):
        top = 2 ** width - 1
        found = [(0, 0, 0, 0)] + [tuple(top * (T >> name & 1) for name in range(4)) for T in range(1, 16)]
        return found + [one_bit_input(bit, T) for bit in range(width) for T in range(1, 16)]

    def alike(self, width, one, other):
        """Whether two short programs are alike as mixes or polynomials; None if they are no such ones."""
        expressions = [[expression_of(rows, out, (0, 1, 2, 3)) for out in outs] for rows, outs in (one, other)]
        try:
            forms = [[mix_form(expression, width) for expression in part] for part in expressions]
            return forms[0] == forms[1]
        except (NotMix, KeyError):
            pass
        for name in range(4):
            expressions = [[expression_of(rows, out, (name,)) for out in outs] for rows, outs in (one, other)]
            if None not in expressions[0] + expressions[1]:
                found = [[polynomial_of(expression, width) for expression in part] for part in expressions]
                if None not in found[0] + found[1]:
                    forms = [[reduced_form(numbers, width) for numbers in part] for part in found]
                    return forms[0] == forms[1]
        return None

    def check(self, width, program, other):
        """The answer is the one that [78] tells; returns its word."""
        found = compare_programs(width, program, other)
        one, another = short_program(width, program), short_program(width, other)
        alike = True if one == another else self.alike(width, one, another)
        different = [words for words in self.special_inputs(width)
                     if slow_result(width, program, words) != slow_result(width, other, words)]
        if found[0] == "paper":
            self.assertEqual((alike, len(found)), (True, 2))
            self.assertIs(check_paper(width, program, found[1], other), True)
            self.assertEqual(different, [])
        elif different:
            self.assertEqual(found, ("input", different[0]))
        elif alike is None:
            self.assertEqual(found, ("open",))
        else:
            self.assertEqual((alike, found[0]), (False, "input"))
            self.assertNotEqual(slow_result(width, program, found[1]), slow_result(width, other, found[1]))
        return found[0]

    def test_examples(self):
        one, other = ((("number", 1), ("add", 0, 4)), (5,)), ((("number", 1), ("or", 0, 4)), (5,))
        self.assertEqual(compare_programs(4, one, other), ("input", (15, 0, 0, 0)))
        one = ((("number", 1), ("add", 1, 4), ("mul", 0, 5)), (6,))
        self.assertEqual(compare_programs(4, one, ((("mul", 0, 1), ("add", 4, 0)), (5,))), ("open",))

    def test_random_programs(self):
        rng = some_random(78)
        count = {"paper": 0, "input": 0, "open": 0}
        mixed = ("number", "not", "neg", "left", "add", "sub", "mul", "and", "or", "xor")
        for _ in range(150):
            width = rng.choice((1, 2, 3, 8))
            operations = rng.choice((ORDER, mixed, ("number", "not", "neg", "left", "add", "sub", "mul"), mixed[:7]))
            program = random_program(rng, width, rng.randrange(6), operations, outs=rng.choice((1, 1, 2)))
            other = random_program(rng, width, rng.randrange(6), operations, outs=len(program[1]))
            for pair in ((program, other), (program, shuffled_program(rng, program)), (other, short_program(width, other))):
                count[self.check(width, *pair)] += 1
        self.assertTrue(count["paper"] > 200 and count["input"] > 100, count)

    def test_texts(self):
        alike = {
            True: (("a + b", "(a ^ b) + 2 * (a & b)"), ("a - b", "(a ^ b) - 2 * (~a & b)"), ("a | b", "a + b - (a & b)"),
                   ("~a", "-a - 1"), ("a * a + a", "a * (a + 1)"), ("a * a * 128", "a * 128"), ("(a + 1) * (a - 1)", "a * a - 1"),
                   ("3 * (a ^ b)", "(a ^ b) * 2 + (a ^ b)"), ("a << 3", "8 * a"), ("0", "a * 256"), ("b", "b + 256 * c"),
                   ("128 * (c * c * c - c)", "0"), ("a & 15 & b", "b & a & 15"), ("a * b", "b * a"), ("(a & b) / 3", "(b & a) / 3")),
            False: (("a + b", "a | b"), ("a", "b"), ("a * a", "a"), ("a * a * 64", "a * 64"), ("a & b", "a"), ("0", "1"),
                    ("a << 7", "a << 6"), ("a * a * a", "a"), ("a >> 1", "a / 3"), ("a < b", "b < a"), ("a * (a - 1)", "0"),
                    ("c * c * c - c", "c - c"), ("a - b", "b - a"), ("a * 2", "a * 2 + 128 * d")),
            None: (("a * (b + 1)", "a * b + a"), ("a < b", "~b < ~a"), ("(a >> 1) >> 1", "a >> 2"), ("a / 2", "a >> 1"),
                   ("a * a * (a >> 8)", "b * (a >> 8)"), ("a * b * b", "b * a * b + c - c + (a * b * c - c * a * b)")),
        }
        for expected, pairs in alike.items():
            for texts in pairs:
                programs = [program_of(8, parse_expression(text)) for text in texts]
                kind = self.check(8, *programs)
                if expected is not None:
                    self.assertEqual(kind, "paper" if expected else "input", texts)
                self.check(8, *programs[::-1])
                self.check(8, programs[0], programs[0])

    def test_open_and_polynomials_at_the_last_words(self):
        # A polynomial that is 0 at all special words and yet not 0: the input is a word like 3 or 5.
        rows = [("number", 2 ** 64 - 1), ("add", 0, 4), ("mul", 0, 5)]
        program = ((("number", 1), ("sub", 0, 4), ("mul", 0, 5), ("neg", 0), ("left", 0, 1), ("number", 2), ("sub", 0, 9),
                    ("mul", 6, 10)), (11,))
        self.assertEqual(self.check(2, program, ((("number", 0),), (4,))), "input")
        self.assertEqual(self.check(64, (tuple(rows), (6,)), program), "input")
        # x * (x - 1) * (x - 2) * (x - 4) at the width 3 is 0 at 0, 1, 2, 4 and 7, but not at 3.
        text = "a * (a - 1) * (a - 2) * (a - 4) * (a - 7)"
        found = compare_programs(3, program_of(3, parse_expression(text)), ((("number", 0),), (4,)))
        kind = self.check(3, program_of(3, parse_expression(text)), ((("number", 0),), (4,)))
        self.assertEqual(kind, found[0])

    def test_polynomials_in_each_name(self):
        # The polynomial is 0 at 0, at 255 and at all powers of two, but not at 3.
        zero = ((("number", 0),), (4,))
        for name, letter in enumerate("abcd"):
            text = " * ".join(f"({letter} - {2 ** k})" for k in range(8)) + f" * {letter} * ({letter} + 1)"
            program = program_of(8, parse_expression(text))
            for pair in ((program, zero), (zero, program)):
                self.assertEqual(self.check(8, *pair), "input")
                self.assertEqual(compare_programs(8, *pair)[1], tuple(3 * (at == name) for at in range(4)))

    def test_one_of_two_is_no_polynomial(self):
        # They differ at no special input, and nothing tells of another one.
        zero = ((("number", 0),), (4,))
        for text in ("a == 3", "c == 5", "(b == 6) * b", "(d / 3) * (d == 7)"):
            program = program_of(8, parse_expression(text))
            self.assertEqual(self.check(8, program, zero), "open")
            self.assertEqual(self.check(8, zero, program), "open")

    def test_several_outs(self):
        one = ((("add", 0, 1), ("number", 3), ("mul", 5, 2)), (4, 6))
        other = ((("xor", 0, 1), ("and", 0, 1), ("left", 5, 1), ("add", 4, 6), ("left", 2, 2), ("sub", 8, 2)), (7, 9))
        self.assertEqual(self.check(64, one, other), "paper")
        self.assertEqual(self.check(64, other, one), "paper")
        self.assertEqual(self.check(8, one, (other[0], (9, 7))), "input")
        self.assertEqual(self.check(8, (one[0], (4, 0)), (other[0], (7, 1))), "input")
        # One out is no mix in one of the programs, and the outs are polynomial in two inputs.
        self.assertEqual(self.check(8, ((("mul", 0, 0), ("mul", 1, 1)), (4, 5)), ((("mul", 0, 0), ("mul", 1, 1)), (4, 5))), "paper")
        two = ((("mul", 0, 0), ("mul", 1, 1), ("add", 4, 0), ("add", 5, 1)), (6, 7))
        more = ((("number", 1), ("add", 0, 4), ("add", 1, 4), ("mul", 0, 5), ("mul", 1, 6)), (7, 8))
        self.assertEqual(self.check(8, two, more), "open")
        self.assertEqual(self.check(8, (two[0], (6, 6)), (more[0], (7, 7))), "paper")
        self.assertEqual(self.check(8, (two[0], (6, 0)), (more[0], (7, 0))), "paper")
        self.assertEqual(self.check(8, (two[0], (6, 1)), (more[0], (7, 1))), "open")

    def test_unlike_programs(self):
        for outs, others in itertools.permutations(((0,), (0, 0), (0, 1, 2), (0, 1, 2, 3)), 2):
            self.assertRaises(UnlikePrograms, compare_programs, 8, ((), outs), ((), others))

    def test_order_of_inputs(self):
        zero = ((("number", 0),), (4,))
        for width in (1, 2, 8, 64):
            top = 2 ** width - 1
            for text, expected in (("1", (0, 0, 0, 0)), ("a", (top, 0, 0, 0)), ("d", (0, 0, 0, top)), ("b & c", (0, top, top, 0)),
                                   ("a & b & c & d", (top,) * 4), ("~a & c", (0, 0, top, 0)), ("a / 1", (top, 0, 0, 0)),
                                   ("a == a", (0, 0, 0, 0)), ("a < b", (0, top, 0, 0))):
                program = program_of(width, parse_expression(text))
                self.assertEqual(compare_programs(width, program, zero), ("input", expected), (width, text))
                self.check(width, program, zero)
        # They differ at an input of one bit alone: bit 1 of c is the only one.
        text = "(c & 2) * (1 - (c & 1)) * (1 - ((c & 4) >> 2))"
        self.assertEqual(compare_programs(8, program_of(8, parse_expression(text)), zero), ("input", (0, 0, 2, 0)))
        # They differ at none of these inputs.
        text = "(a == 3) & (b == 5)"
        self.assertEqual(compare_programs(8, program_of(8, parse_expression(text)), zero), ("open",))

    def test_all_inputs_of_small_widths(self):
        rng = some_random(79)
        inputs = {1: all_inputs(1), 2: all_inputs(2)}
        for _ in range(60):
            width = rng.choice((1, 2))
            operations = rng.choice((ORDER, ("number", "not", "neg", "left", "add", "sub", "mul", "and", "or", "xor")))
            pair = [random_program(rng, width, 4, operations, outs=1) for _ in range(2)]
            kind = self.check(width, *pair)
            same = all(slow_result(width, pair[0], words) == slow_result(width, pair[1], words) for words in inputs[width])
            self.assertTrue(kind == "open" or (kind == "paper") == same)
            if width == 1:
                # At the width 1 all inputs are special ones.
                self.assertTrue(same if kind != "input" else not same)

    def test_deep_rows(self):
        doubled = tuple(("add", 3 + k if k else 0, 3 + k if k else 0) for k in range(60))
        shifts = tuple(("left", 3 + k if k else 0, 1) for k in range(60))
        for width, out in ((64, 63), (64, 40), (8, 63), (8, 10)):
            self.assert_paper(width, (doubled, (out,)), (shifts, (out,)))
        self.assert_paper(8, (doubled, (11,)), ((("number", 0),), (4,)))
        self.assertEqual(compare_programs(64, (doubled, (63,)), (doubled, (62,)))[0], "input")
        squares = tuple(("mul", 3 + k if k else 0, 3 + k if k else 0) for k in range(58))
        self.assert_paper(64, ((*squares, ("mul", 61, 0), ("mul", 62, 0)), (62,)), ((*squares, ("mul", 0, 61)), (62,)))
        self.assert_paper(64, ((*squares, ("mul", 61, 0), ("mul", 62, 0)), (63,)), ((*squares, ("mul", 0, 0), ("mul", 62, 61)), (63,)))
        fourth = tuple(("mul", 3 + k if k else 0, 3 + k if k else 0) for k in range(60))
        # Of odd words the power 2 ** 62 is 1 at the width 64; of 3 the power 2 ** 59 is not.
        self.assert_paper(61, (fourth, (63,)), (fourth, (62,)))
        self.assertEqual(compare_programs(64, (fourth, (63,)), (fourth, (62,))), ("input", (3, 0, 0, 0)))
        self.assertEqual(compare_programs(64, (fourth, (63,)), ((), (0,)))[0], "input")
        tower = [("xor", 0, 1), ("and", 0, 1)]
        while len(tower) < 60:
            tower.append((("xor", "or", "and")[len(tower) % 3], len(tower) + 3, len(tower) + 2))
        turned = tuple((name, y, x) for name, x, y in tower)
        self.assert_paper(64, (tuple(tower), (63, 62, 60, 61)), (turned, (63, 62, 60, 61)))
        self.assert_paper(64, (tuple(tower), (63,)), self.bitwise_of(tower))

    def bitwise_of(self, tower):
        """A short program for the last row of a tower, which is one of the sixteen functions of a and b."""
        table = [slow_result(1, (tuple(tower), (63,)), (a, b, 0, 0))[0] for a, b in ((0, 0), (1, 0), (0, 1), (1, 1))]
        rows = [("number", 2 ** 64 - 1), ("not", 0), ("not", 1), ("and", 5, 6), ("and", 0, 6), ("and", 5, 1), ("and", 0, 1),
                ("number", 0)]
        for value, bit in zip((7, 8, 9, 10), table):
            if bit:
                rows.append(("or", value, 3 + len(rows)))
        return (tuple(rows), (3 + len(rows),))

    def assert_paper(self, width, program, other):
        found = compare_programs(width, program, other)
        self.assertEqual(found[0], "paper")
        self.assertIs(check_paper(width, program, found[1], other), True)
        self.assertIs(check_paper(width, other, turned_paper(width, program, found[1]), program), True)
        return found


if __name__ == "__main__":
    unittest.main()
