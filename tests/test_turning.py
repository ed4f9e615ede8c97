"""[48], [49] Mixes that can be solved for a name."""

import itertools
import unittest

from tests.helpers import Other, changed_values, odd_values, some_random
from tests.slow_mixes import all_values, inputs_over, random_bitwise, random_mix
from wordsalike.errors import NotMix, NotReversible
from wordsalike.expressions import value_at
from wordsalike.masks import Mask
from wordsalike.texts import parse_expression
from wordsalike.turning import check_turning, solve_name, turn_paper

TOP = 2 ** 64 - 1


def differ_in(name, one, other):
    """Whether two inputs differ in the word of a name alone."""
    return [at for at in range(4) if one[at] != other[at]] == [name]


def slow_reversible(values, name):
    """[48] by its words, for a dict from inputs to values."""
    groups = {}
    for words, value in values.items():
        groups.setdefault((*words[:name], *words[name + 1:]), []).append(value)
    return all(len(set(group)) == len(group) for group in groups.values())


def some_mixes(rng, names):
    """Mixes, of which some are reversible in the first of the names."""
    name = ("name", names[0])
    found = [random_mix(rng, 6, names), random_bitwise(rng, 4, names)]
    even = ("left", ("and", name, random_bitwise(rng, 4, names)), 1)
    found.append(("add", name, even))
    found.append(("sub", random_bitwise(rng, 4, names[1:]), ("add", even, name)))
    found.append(("xor", name, random_bitwise(rng, 4, names[1:])))
    found.append(("add", ("mul", name, ("number", rng.randrange(8))), random_mix(rng, 4, names[1:])))
    # An even number at one bit, and odd ones above it.
    found.append(("add", name, ("and", name, ("number", 2 ** rng.randrange(3)))))
    found.append(("add", name, ("and", ("and", name, ("name", names[-1])), ("number", 2 ** rng.randrange(3)))))
    return found


class PaperTests(unittest.TestCase):
    def check_paper(self, expression, width, name):
        """The result holds, and check_turning accepts it; returns whether it is ("odd",)."""
        found = turn_paper(expression, width, name)
        self.assertIs(check_turning(expression, width, name, found), True)
        if found != ("odd",):
            kind, one, other = found
            self.assertEqual(kind, "same")
            for words in (one, other):
                self.assertEqual((type(words), len(words)), (tuple, 4))
                self.assertTrue(all(0 <= word < 2 ** width for word in words))
            self.assertTrue(differ_in(name, one, other))
            self.assertEqual(value_at(expression, width, one), value_at(expression, width, other))
        return found == ("odd",)

    def test_examples(self):
        self.assertEqual(turn_paper(parse_expression("a + 2 * (a & b)"), 64, 0), ("odd",))
        same = ("same", (0, 2, 0, 0), (2, 2, 0, 0))
        self.assertIs(check_turning(parse_expression("a + b + (a & b)"), 2, 0, same), True)

    def test_small_widths_one_by_one(self):
        rng = some_random(48)
        count = 0
        for width, names, many in ((1, (0, 1, 2, 3), 12), (2, (0, 1), 14), (2, (3, 1, 2), 4), (3, (2, 0), 8),
                                   (3, (1, 3), 6)):
            for _ in range(many):
                for expression in some_mixes(rng, names):
                    inputs = inputs_over(names, width)
                    values = dict(zip(inputs, all_values(expression, inputs, width)))
                    for name in range(4):
                        expected = slow_reversible(values, name) if name in names else False
                        self.assertIs(self.check_paper(expression, width, name), expected)
                        self.assertIs(check_turning(expression, width, name, ("odd",)), expected)
                        count += expected
        self.assertGreater(count, 100)

    def test_all_pairs_of_inputs(self):
        texts = ("a + b + (a & b)", "a ^ b", "2 * a + b", "(a & b) - c", "a + 2 * (a & d)", "3", "(a & 1) + b")
        for width, names in ((1, (0, 1, 2, 3)), (2, (0, 1))):
            inputs = inputs_over(names, width)
            for text, name in itertools.product(texts, range(2)):
                expression = parse_expression(text)
                values = dict(zip(inputs, all_values(expression, inputs, width)))
                for one, other in itertools.product(inputs, repeat=2):
                    expected = differ_in(name, one, other) and values[one] == values[other]
                    self.assertIs(check_turning(expression, width, name, ("same", one, other)), expected)

    def test_width_64(self):
        rng = some_random(49)
        odd = 0
        for width in (31, 63, 64):
            for _ in range(6):
                for expression in some_mixes(rng, (0, 1, 2, 3)):
                    for name in (0, 3):
                        odd += self.check_paper(expression, width, name)
        self.assertGreater(odd, 20)

    def test_an_even_number_at_each_bit(self):
        for width in (1, 2, 3, 5, 64):
            for bit in range(0, width, 1 if width < 64 else 7):
                power = 2 ** bit
                for text in (f"a + (a & {power})", f"a + (a & b & {power})", f"a - (a & ~c & {power})",
                             f"3 * a + 5 * (a & {power})", f"a ^ (a & d & {power})", f"a - 3 * (a & b & c & {power})"):
                    self.assertIs(self.check_paper(parse_expression(text), width, 0), False)
                for text in (f"a + 2 * (a & {power})", f"a ^ (b & {power})", f"{power} - a"):
                    self.assertIs(self.check_paper(parse_expression(text), width, 0), True)

    def test_inputs_exchanged_and_changed(self):
        expression = parse_expression("a + b + (a & b)")
        one, other = (0, 2, 0, 0), (2, 2, 0, 0)
        self.assertIs(check_turning(expression, 2, 0, ("same", other, one)), True)
        for value in (("same", one, one), ("same", (0, 2, 0, 1), other), ("same", (0, 0, 0, 0), (2, 0, 0, 0)),
                      ("same", (0, 2, 0, 0), (2, 2, 0, 0, 0)), ("same", (0, 2, 0), (2, 2, 0)), ("odd",), ("odd", one),
                      ("same", (0, 2, 0, 0), (6, 2, 0, 0)), ("same", (0, 2, 0, 0), (-2, 2, 0, 0)),
                      ("same", (2, 0, 0, 0), (2, 2, 0, 0)), ("same", (False, 2, 0, 0), other), ("even", one, other)):
            self.assertIs(check_turning(expression, 2, 0, value), False, value)
        self.assertIs(check_turning(expression, 2, 1, ("same", one, other)), False)
        self.assertIs(check_turning(expression, 2, 1, ("same", (2, 0, 0, 0), (2, 2, 0, 0))), True)

    def test_values_of_all_kinds(self):
        told = [(parse_expression("a + b + (a & b)"), 2, ("same", (0, 2, 0, 0), (2, 2, 0, 0))),
                (parse_expression("a + 2 * (a & b)"), 64, ("odd",))]
        for expression, width, right in told:
            self.assertIs(check_turning(expression, width, 0, right), True)
            for value in [*odd_values(), Other(), Mask(4, 0, 0), (Mask(4, 0, 0),), ("same",), ("same", None, None),
                          ("same", (0, 2, 0, 0)), (["odd"],), "odd", ("same", [0, 2, 0, 0], [2, 2, 0, 0])]:
                self.assertIs(check_turning(expression, width, 0, value), False)
            for value in changed_values(right):
                self.assertIs(check_turning(expression, width, 0, value), False, value)

    def test_errors(self):
        for text, path in (("a * b", ()), ("a + (b >> 1)", (2,)), ("(a & (a + 1)) * (b / 3)", (1,))):
            expression = parse_expression(text)
            for name in range(4):
                with self.assertRaises(NotMix) as caught:
                    turn_paper(expression, 8, name)
                self.assertEqual(caught.exception.path, path)
                for value in [("odd",), None, ("same", (0, 0, 0, 0), (1, 0, 0, 0)), "x"]:
                    with self.assertRaises(NotMix) as caught:
                        check_turning(expression, 8, name, value)
                    self.assertEqual(caught.exception.path, path)
                with self.assertRaises(NotMix) as caught:
                    solve_name(expression, 8, (0, 0, 0, 0), name, 0)
                self.assertEqual(caught.exception.path, path)


class SolveTests(unittest.TestCase):
    def test_examples(self):
        self.assertEqual(solve_name(parse_expression("a + 2 * (a & b)"), 2, (0, 1, 0, 0), 0, 3), 1)
        self.assertEqual(solve_name(parse_expression("3 * a"), 64, (0, 0, 0, 0), 0, 1), 12297829382473034411)

    def test_small_widths_one_by_one(self):
        rng = some_random(50)
        for width, names in ((1, (0, 1, 2, 3)), (2, (2, 1)), (3, (1, 0)), (2, (3, 0, 1))):
            inputs = inputs_over(names, width)
            for expression in [*some_mixes(rng, names), *some_mixes(rng, names)]:
                values = dict(zip(inputs, all_values(expression, inputs, width)))
                if not slow_reversible(values, names[0]):
                    self.check_error(expression, width, names[0])
                    continue
                for words, value in list(values.items())[::3]:
                    self.assertEqual(solve_name(expression, width, words, names[0], value), words[names[0]])
                    # The word of the name is not looked at.
                    for word in range(2 ** width):
                        given = (*words[:names[0]], word, *words[names[0] + 1:])
                        found = solve_name(expression, width, given, names[0], value)
                        self.assertEqual(found, words[names[0]])

    def check_error(self, expression, width, name):
        with self.assertRaises(NotReversible) as caught:
            solve_name(expression, width, (0, 0, 0, 0), name, 0)
        self.assertEqual(caught.exception.name, name)

    def test_width_64(self):
        rng = some_random(51)
        for width in (31, 63, 64):
            for name in range(4):
                names = (name, *[other for other in range(4) if other != name])
                for expression in some_mixes(rng, names):
                    if turn_paper(expression, width, name) != ("odd",):
                        self.check_error(expression, width, name)
                        continue
                    for _ in range(3):
                        words = tuple(rng.randrange(2 ** width) for _ in range(4))
                        value = rng.choice((0, 2 ** width - 1, rng.randrange(2 ** width)))
                        found = solve_name(expression, width, words, name, value)
                        self.assertTrue(0 <= found < 2 ** width)
                        solved = (*words[:name], found, *words[name + 1:])
                        self.assertEqual(value_at(expression, width, solved), value)

    def test_errors(self):
        self.check_error(parse_expression("2 * a + b"), 8, 0)
        self.check_error(parse_expression("2 * a + b"), 8, 2)
        self.check_error(parse_expression("5"), 1, 3)
        # The expression is no mix, and no name of it can be solved for.
        with self.assertRaises(NotMix):
            solve_name(parse_expression("2 * (a * b)"), 8, (0, 0, 0, 0), 0, 0)


if __name__ == "__main__":
    unittest.main()
