"""[76] Papers."""

import unittest

from tests.helpers import Other, changed_values, odd_values, some_random
from tests.slow_programs import random_program, shuffled_program, slow_result
from tests.slow_steps import slow_step
from wordsalike.errors import BadStep
from wordsalike.papers import after_step, check_paper, paper_programs, turned_paper
from wordsalike.passes import compare_programs, short_paper
from wordsalike.programs import Program, run_program

A = ((("number", 3), ("mul", 0, 4), ("number", 4), ("mul", 5, 6), ("mul", 4, 0), ("sub", 7, 8)), (9,))
X = ((("xor", 0, 1), ("and", 0, 1), ("left", 5, 1), ("add", 4, 6)), (7,))
SUM = ((("add", 0, 1),), (4,))
PAPER = (("insert", 4, ("add", 0, 1)), ("use", 9, 0, 4, ("mix", (0, 1))), ("delete", 8), ("delete", 7), ("delete", 6),
         ("delete", 5))


def slow_end(width, program, paper):
    """The program at the end of a paper, a text if a step cannot be taken."""
    for step in paper:
        program = slow_step(width, program, step)
        if isinstance(program, str):
            return program
    return program


def random_paper(rng, width, program, count):
    """A paper of about so many steps of all kinds from a program."""
    steps = []
    while len(steps) < count:
        rows, outs = program
        many = len(rows) + 4
        kind = rng.random()
        at = rng.randrange(4, many + 1)
        if kind < 0.3 and len(rows) < 200:
            step = ("insert", at, rng.choice((("number", 0), ("xor", 0, at - 1), ("not", at - 1), ("mul", 1, 2), ("sub", 3, 3))))
        elif kind < 0.5:
            step = ("delete", rng.randrange(4, many + 1))
        else:
            why = rng.choice((("same",), ("rule",), ("worked",), ("mix", (0, 1, 2, 3)), ("polynomial", 0)))
            step = ("use", at, rng.randrange(3), rng.randrange(many), why)
        try:
            program = after_step(width, program, step)
        except BadStep:
            continue
        steps.append(step)
    return tuple(steps), program


class CheckTests(unittest.TestCase):
    def test_example(self):
        self.assertIs(check_paper(8, X, PAPER, SUM), True)

    def test_other_programs(self):
        for width in (1, 2, 8, 64):
            self.assertIs(check_paper(width, X, PAPER, SUM), slow_end(width, X, PAPER) == SUM)
        for other in (X, A, ((("add", 1, 0),), (4,)), ((("add", 0, 1),), (0,)), ((("add", 0, 1),), (4, 4)), ((), (0,))):
            self.assertIs(check_paper(8, X, PAPER, other), False)
            self.assertIs(check_paper(8, other, PAPER, SUM), slow_end(8, other, PAPER) == SUM)
            self.assertIs(check_paper(8, other, (), other), True)
            self.assertIs(check_paper(8, other, (), SUM), False)

    def test_steps_changed(self):
        for at in range(len(PAPER)):
            step = PAPER[at]
            for value in ((*PAPER[:at], *PAPER[at + 1:]), (*PAPER[:at], step, step, *PAPER[at + 1:]), PAPER[:at],
                          (*PAPER, step), (*PAPER[:at], None, *PAPER[at + 1:]), (*PAPER[:at], list(step), *PAPER[at + 1:])):
                self.assertIs(check_paper(8, X, value, SUM), slow_end(8, X, value) == SUM, value)
        count = 0
        for value in changed_values(PAPER):
            expected = type(value) is tuple and slow_end(8, X, value) == SUM
            self.assertIs(check_paper(8, X, value, SUM), expected, value)
            count += expected
        # More leaves do no harm.
        self.assertGreater(count, 0)
        longer = (*PAPER, ("insert", 5, ("not", 0)), ("delete", 5))
        self.assertIs(check_paper(8, X, longer, SUM), True)

    def test_values_of_all_kinds(self):
        for value in [*odd_values(), Other(), X, Program(8, X), list(PAPER), {"a": PAPER}, (PAPER,), "insert", PAPER[0]]:
            expected = value == () and isinstance(value, tuple)
            self.assertIs(check_paper(8, X, value, X), expected, value)

    def test_a_thousand_steps(self):
        back_and_forth = (("insert", 4, ("number", 1)), ("delete", 4)) * 500
        for count in (0, 1, 2, 999, 1000):
            self.assertIs(check_paper(8, X, back_and_forth[:count], X), count % 2 == 0)
        self.assertIs(check_paper(8, X, (*back_and_forth, ("insert", 4, ("number", 1))), X), False)
        self.assertIs(check_paper(8, X, (*back_and_forth, *back_and_forth[:2]), X), False)
        self.assertIs(check_paper(8, A, (("use", 10, 0, 9, ("same",)),) * 1000, A), True)
        self.assertIs(check_paper(8, A, (("use", 10, 0, 9, ("same",)),) * 1001, A), False)

    def test_a_thousand_steps_over_two_hundred_rows(self):
        rows = [("xor", 0, 1), ("and", 0, 1)]
        while len(rows) < 198:
            rows.append(("xor", len(rows) + 3, len(rows) + 2) if len(rows) % 2 else ("or", len(rows) + 3, len(rows) + 2))
        program = ((*rows, ("not", 201), ("not", 202)), (203,))
        there = ("use", 204, 0, 201, ("mix", (0, 1, 2, 3)))
        back = ("use", 204, 0, 203, ("mix", (0, 1)))
        self.assertIs(check_paper(64, program, (there, back) * 500, program), True)
        self.assertIs(check_paper(64, program, ((there, back) * 500)[:999], program), False)

    def test_what_is_accepted_is_right(self):
        rng = some_random(76)
        for _ in range(40):
            width = rng.choice((1, 2, 8, 64))
            program = random_program(rng, width, 5)
            paper, other = random_paper(rng, width, program, 25)
            self.assertIs(check_paper(width, program, paper, other), True)
            self.assertEqual(slow_end(width, program, paper), other)
            for _ in range(5):
                words = tuple(rng.randrange(2 ** width) for _ in range(4))
                self.assertEqual(run_program(width, program, words), slow_result(width, other, words))


class ProgramsTests(unittest.TestCase):
    def check(self, width, program, paper):
        found = list(paper_programs(width, program, paper))
        self.assertEqual(len(found), len(paper) + 1)
        self.assertEqual(found[0], program)
        for before, step, after in zip(found, paper, found[1:]):
            self.assertEqual(after_step(width, before, step), after)
        return found[-1]

    def test_random_papers(self):
        rng = some_random(77)
        for _ in range(40):
            width = rng.choice((1, 2, 8, 64))
            program = random_program(rng, width, rng.randrange(8))
            paper, other = random_paper(rng, width, program, rng.randrange(30))
            self.assertEqual(self.check(width, program, paper), other)

    def test_ends(self):
        self.assertEqual(list(paper_programs(8, A, ())), [A])
        self.assertEqual(self.check(8, X, PAPER), SUM)
        steps = (("insert", 4, ("number", 1)), ("delete", 4)) * 500
        self.assertEqual(self.check(8, X, steps), X)
        one, other = paper_programs(8, X, PAPER), paper_programs(8, X, PAPER)
        # Two of them, one step at a time, do not disturb each other.
        self.assertTrue(all(next(one) == next(other) for _ in range(7)))

    def test_two_hundred_rows(self):
        program = (tuple(("neg", 3 + k) for k in range(199)), (202,))
        paper = (("insert", 4, ("not", 0)), ("delete", 4), ("insert", 203, ("not", 5)), ("use", 204, 0, 200, ("rule",)))
        self.assertEqual(len(self.check(8, program, paper)[0]), 200)


class TurnedTests(unittest.TestCase):
    def test_example(self):
        found = turned_paper(8, A, (("use", 9, 1, 5, ("same",)), ("delete", 8)))
        self.assertEqual(found, (("insert", 8, ("mul", 4, 0)), ("use", 9, 1, 8, ("same",))))

    def check(self, width, program, paper):
        """The turned paper leads back, and turned again it is the paper."""
        end = list(paper_programs(width, program, paper))[-1]
        turned = turned_paper(width, program, paper)
        self.assertEqual((type(turned), len(turned)), (tuple, len(paper)))
        self.assertIs(check_paper(width, end, turned, program), True)
        self.assertEqual(list(paper_programs(width, end, turned))[::-1], list(paper_programs(width, program, paper)))
        self.assertEqual(turned_paper(width, end, turned), paper)
        for step, back in zip(paper, turned[::-1]):
            self.assertEqual(back[1], step[1])
            if step[0] == "use":
                self.assertEqual((back[0], back[2], back[4]), ("use", step[2], step[4]))

    def test_ends(self):
        self.assertEqual(turned_paper(8, A, ()), ())
        self.check(8, X, PAPER)
        self.check(8, X, (("insert", 4, ("number", 1)), ("delete", 4)) * 500)
        self.check(64, (tuple(("neg", 3 + k) for k in range(199)), (202,)), (("insert", 100, ("number", 9)),))

    def test_random_papers(self):
        rng = some_random(78)
        for _ in range(40):
            width = rng.choice((1, 2, 8, 64))
            program = random_program(rng, width, rng.randrange(8))
            self.check(width, program, random_paper(rng, width, program, rng.randrange(30))[0])

    def test_papers_of_passes(self):
        rng = some_random(79)
        for _ in range(30):
            width = rng.choice((1, 2, 8, 64))
            program = random_program(rng, width, rng.randrange(12))
            self.check(width, program, short_paper(width, program))
            other = shuffled_program(rng, program)
            self.check(width, program, compare_programs(width, program, other)[1])

    def test_each_reason(self):
        rows = (("number", 4), ("number", 3), ("mul", 0, 4), ("left", 0, 2), ("quo", 0, 4), ("right", 0, 2), ("rem", 0, 4),
                ("and", 5, 0), ("quo", 8, 3), ("quo", 0, 12), ("quo", 0, 7), ("scale", 0, 73, 73, 9), ("add", 4, 5), ("number", 7),
                ("sub", 0, 0), ("number", 0), ("and", 0, 5), ("neg", 0), ("not", 21))
        for i, j, why in ((6, 7, ("shift",)), (8, 9, ("shift",)), (10, 11, ("shift",)), (12, 13, ("quotient",)),
                          (14, 15, ("scale",)), (16, 17, ("worked",)), (18, 19, ("rule",)), (11, 20, ("same",)),
                          (6, 7, ("mix", (0,))), (6, 7, ("polynomial", 0)), (7, 6, ("mix", (0, 1, 22)))):
            for one, other in ((i, j), (j, i)):
                self.check(8, (rows, (one, 0)), (("use", 23, 0, other, why),))
                if other < 21:
                    program = ((*rows[:17], ("neg", one), *rows[18:]), (0,))
                    if one < 21:
                        self.check(8, program, (("use", 21, 0, other, why),))


if __name__ == "__main__":
    unittest.main()
