"""[44] to [47] Mixes that are plain, straight or bitwise."""

import itertools
import unittest

from tests.helpers import some_random
from tests.slow_mixes import (all_values, extreme_input, inputs_over, pattern_at, random_bitwise, random_mix)
from wordsalike.errors import NotMix
from wordsalike.expressions import expression_fault, names_used, value_at
from wordsalike.mixes import mix_form, mixes_alike
from wordsalike.tables import bitwise_rows, mix_of_sets, plain_table, set_numbers, straight_numbers
from wordsalike.texts import parse_expression

TOP = 2 ** 64 - 1
MOST = 10 ** 30 - 1


def and_of(pattern, words, width):
    """The and of the words of a pattern; all bits for the pattern 0."""
    found = 2 ** width - 1
    for name in range(4):
        if pattern >> name & 1:
            found &= words[name]
    return found


def slow_table(expression, width, inputs):
    """[44] by its words: the table that the extreme inputs tell, None if another input does not fit."""
    table = tuple(-value_at(expression, width, extreme_input(width, T)) % 2 ** width for T in range(16))
    for words, value in zip(inputs, all_values(expression, inputs, width)):
        if sum(2 ** j * table[pattern_at(words, j)] for j in range(width)) % 2 ** width != value:
            return None
    return table


def slow_straight(expression, width, inputs):
    """[46] by its words."""
    last = value_at(expression, width, (0, 0, 0, 0))
    one = [tuple(int(name == at) for at in range(4)) for name in range(4)]
    factors = [(value_at(expression, width, words) - last) % 2 ** width for words in one]
    for words, value in zip(inputs, all_values(expression, inputs, width)):
        if (sum(factor * word for factor, word in zip(factors, words)) + last - value) % 2 ** width:
            return None
    return (*factors, last)


def slow_rows(expression, width, inputs):
    """[47] by its words."""
    rows = [{} for _ in range(width)]
    for words, value in zip(inputs, all_values(expression, inputs, width)):
        for bit in range(width):
            if rows[bit].setdefault(pattern_at(words, bit), value >> bit & 1) != value >> bit & 1:
                return None
    used = names_used(expression)
    within = sum(2 ** name for name in used)
    return tuple(sum(row[T & within] * 2 ** T for T in range(16)) for row in rows)


def some_mixes(rng, names, width):
    """Mixes of which some are plain, straight or bitwise at a width."""
    factor = ("number", rng.choice((2 ** (width - 1), 2 ** width, 2 ** (width - 1) + 1, 3, TOP)))
    found = [random_mix(rng, size, names) for size in (3, 6, 9)]
    found.append(random_bitwise(rng, 5, names))
    found.append(("mul", random_mix(rng, 5, names), factor))
    one, other = [("mul", ("name", rng.choice(names)), ("number", rng.randrange(2 ** 64))) for _ in range(2)]
    found.append(("sub", ("add", one, ("number", rng.randrange(2 ** 64))), other))
    pair = [random_bitwise(rng, 3, names) for _ in range(2)]
    found.append(("add", ("or", *pair), ("and", *pair)))
    found.append(("sub", ("add", *pair), ("left", ("and", *pair), 1)))
    return found


class SmallTests(unittest.TestCase):
    def check(self, expression, width):
        """All functions against all inputs."""
        inputs = inputs_over(names_used(expression), width)
        table = slow_table(expression, width, inputs)
        self.assertEqual(plain_table(expression, width), table)
        self.assertEqual(straight_numbers(expression, width), slow_straight(expression, width, inputs))
        self.assertEqual(bitwise_rows(expression, width), slow_rows(expression, width, inputs))
        sets = set_numbers(expression, width)
        self.assertIs(sets is None, table is None)
        if sets is not None:
            self.check_sets(expression, width, inputs, sets)
        return [found is not None for found in (table, straight_numbers(expression, width),
                                                bitwise_rows(expression, width))]

    def check_sets(self, expression, width, inputs, sets):
        self.assertEqual((type(sets), len(sets)), (tuple, 16))
        self.assertTrue(all(0 <= n < 2 ** width for n in sets))
        for words in inputs:
            total = sum(n * and_of(S, words, width) for S, n in enumerate(sets))
            self.assertEqual(total % 2 ** width, value_at(expression, width, words))
        self.assertEqual(set_numbers(mix_of_sets(sets, width), width), sets)
        self.assertIs(mixes_alike(mix_of_sets(sets, width), expression, width), True)

    def test_small_widths_one_by_one(self):
        rng = some_random(44)
        seen = set()
        for width, names, many in ((1, (0, 1, 2, 3), 25), (2, (0, 1), 25), (2, (0, 2, 3), 6), (3, (1, 3), 12),
                                   (3, (2,), 10), (4, (0,), 12), (2, (0, 1, 2, 3), 1)):
            for _ in range(many):
                for expression in some_mixes(rng, names, width):
                    seen.add(tuple(self.check(expression, width)))
        # All kinds have come, but a straight mix is always plain.
        kinds = itertools.product((False, True), repeat=3)
        self.assertEqual(seen, {(plain, straight, bitwise) for plain, straight, bitwise in kinds
                                if plain or not straight})

    def test_one_width_and_not_another(self):
        for text, width, plain, straight, bitwise in (
                ("a & 12", 8, False, False, True), ("a & 255", 8, True, True, True), ("a & 255", 9, False, False, True),
                ("a & 15", 4, True, True, True), ("a & 15", 5, False, False, True), ("a & 1", 1, True, True, True),
                ("a ^ b", 8, True, False, True), ("a ^ b", 1, True, True, True), ("a + b", 8, True, True, False),
                ("a + b", 1, True, True, True), ("2 * a", 1, True, True, True), ("2 * a", 2, True, True, False),
                ("256 * a + 3", 8, True, True, True), ("256 * a + 3", 9, True, True, False),
                ("(a & 1) * 128", 8, True, True, False), ("(a & 1) * 128", 9, False, False, False),
                ("(a & 1) << 7", 8, True, True, False), ("a & b & 1", 1, True, False, True),
                ("128 * (a & b)", 8, True, False, False), ("a + b - (a & b)", 8, True, False, True),
                ("7", 8, True, True, True), ("~a", 8, True, True, True), ("-a", 8, True, True, False),
                ("-a", 1, True, True, True), ("(a | b) + (a & b) - 1", 8, True, True, False)):
            expression = parse_expression(text)
            found = [function(expression, width) is not None
                     for function in (plain_table, straight_numbers, bitwise_rows)]
            self.assertEqual(found, [plain, straight, bitwise], (text, width))
            self.assertIs(set_numbers(expression, width) is not None, plain)
            if width < 6:
                self.check(expression, width)


class TableTests(unittest.TestCase):
    def test_examples(self):
        self.assertEqual(plain_table(parse_expression("a + b"), 8), (0, 1, 1, 2) * 4)
        self.assertIsNone(plain_table(parse_expression("a & 12"), 8))
        self.assertEqual(plain_table(parse_expression("(a & 12) + (a & 243)"), 8),
                         plain_table(parse_expression("a"), 8))
        self.assertEqual(set_numbers(parse_expression("a ^ b"), 8), (0, 1, 1, 254) + (0,) * 12)

    def test_all_widths(self):
        rng = some_random(45)
        for width in range(1, 65):
            numbers = [rng.randrange(2 ** 64) for _ in range(3)]
            terms = [("mul", ("number", n), pure_bitwise(rng, 6)) for n in numbers]
            expression = ("sub", ("add", terms[0], ("number", numbers[0])), ("add", terms[1], terms[2]))
            expected = [-value_at(expression, width, extreme_input(width, T)) % 2 ** width for T in range(16)]
            self.assertEqual(plain_table(expression, width), tuple(expected))
            sets = set_numbers(expression, width)
            for T in range(16):
                inside = sum(n for S, n in enumerate(sets) if S & ~T == 0)
                self.assertEqual(inside % 2 ** width, expected[T])
            self.assertIs(mixes_alike(mix_of_sets(sets, width), expression, width), True)

    def test_one_bit_makes_a_mix_no_longer_plain(self):
        for width in (2, 3, 8, 63, 64):
            for bit in range(width):
                expression = ("add", ("name", 2), ("and", ("name", 1), ("number", 2 ** bit)))
                self.assertIsNone(plain_table(expression, width))
                self.assertIsNone(set_numbers(expression, width))
                self.assertIsNone(straight_numbers(expression, width))


def pure_bitwise(rng, size):
    """An expression of names, not, and, or, xor alone."""
    if size <= 1:
        return ("name", rng.randrange(4))
    if rng.random() < 0.3:
        return ("not", pure_bitwise(rng, size - 1))
    first = rng.randrange(1, size)
    return (rng.choice(("and", "or", "xor")), pure_bitwise(rng, first), pure_bitwise(rng, size - first))


class SetTests(unittest.TestCase):
    def check_numbers(self, numbers, width):
        expression = mix_of_sets(numbers, width)
        self.assertIsNone(expression_fault(expression))
        self.assertEqual(set_numbers(expression, width), tuple(n % 2 ** width for n in numbers))

    def test_numbers_are_read_back(self):
        rng = some_random(46)
        for width in (1, 2, 8, 31, 63, 64):
            for numbers in ((0,) * 16, (MOST,) * 16, (-MOST,) * 16, (MOST, -MOST) * 8, (2 ** 64,) * 16, (1,) * 16,
                            (-1,) * 16, (2 ** width, 2 ** width - 1) * 8):
                self.check_numbers(numbers, width)
            for at in range(16):
                for n in (1, -1, 2 ** (width - 1), MOST, -MOST):
                    self.check_numbers((0,) * at + (n,) + (0,) * (15 - at), width)
            for _ in range(10):
                self.check_numbers(tuple(rng.randrange(-MOST, MOST + 1) for _ in range(16)), width)

    def test_values(self):
        rng = some_random(47)
        for width in (1, 2, 64):
            for _ in range(10):
                numbers = tuple(rng.randrange(-MOST, MOST + 1) for _ in range(16))
                expression = mix_of_sets(numbers, width)
                for _ in range(10):
                    words = tuple(rng.randrange(2 ** width) for _ in range(4))
                    total = sum(n * and_of(S, words, width) for S, n in enumerate(numbers))
                    self.assertEqual(value_at(expression, width, words), total % 2 ** width)


class StraightTests(unittest.TestCase):
    def test_examples(self):
        self.assertEqual(straight_numbers(parse_expression("(a | b) + (a & b) - 1"), 8), (1, 1, 0, 0, 255))
        self.assertIsNone(straight_numbers(parse_expression("a ^ b"), 8))
        self.assertEqual(straight_numbers(parse_expression("a ^ b"), 1), (1, 1, 0, 0, 0))

    def test_all_widths(self):
        rng = some_random(48)
        for width in range(1, 65):
            numbers = [rng.choice((0, 1, 2 ** width - 1, rng.randrange(2 ** width))) for _ in range(5)]
            terms = [("mul", ("name", name), ("number", n)) for name, n in enumerate(numbers[:4])]
            expression = ("add", ("add", *terms[:2]), ("add", ("add", *terms[2:]), ("number", numbers[4])))
            self.assertEqual(straight_numbers(expression, width), tuple(numbers))
            bent = ("add", expression, parse_expression("a & b & c & d"))
            self.assertIsNone(straight_numbers(bent, width))
            high = ("add", expression, parse_expression(f"(a & {2 ** (width - 1)})"))
            self.assertEqual(straight_numbers(high, width) is None, width > 1)


class BitwiseTests(unittest.TestCase):
    def test_examples(self):
        self.assertEqual(bitwise_rows(parse_expression("a & 2"), 2), (0, 43690))
        self.assertIsNone(bitwise_rows(parse_expression("a + b"), 8))
        self.assertEqual(bitwise_rows(parse_expression("a + b - 2 * (a & b)"), 1), (26214,))

    def test_width_64(self):
        rng = some_random(49)
        for width in (31, 64):
            for _ in range(20):
                expression = random_bitwise(rng, 8)
                rows = bitwise_rows(expression, width)
                self.assertEqual(len(rows), width)
                for T in range(16):
                    value = value_at(expression, width, extreme_input(width, T))
                    self.assertEqual([row >> T & 1 for row in rows], [value >> bit & 1 for bit in range(width)])
                self.assertEqual(bitwise_rows(("sub", ("number", TOP), expression), width),
                                 tuple(65535 - row for row in rows))

    def test_a_carry_is_not_bitwise(self):
        for width in (2, 8, 64):
            for bit in range(width):
                sides = [("and", ("name", name), ("number", 2 ** bit)) for name in (0, 1)]
                found = bitwise_rows(("add", *sides), width)
                self.assertIs(found is None, bit < width - 1)


class ErrorTests(unittest.TestCase):
    def test_not_mix(self):
        for function in (plain_table, set_numbers, straight_numbers, bitwise_rows):
            for text, path in (("a * b", ()), ("a + b / 2", (2,)), ("~(a & (b + 1))", (1,))):
                with self.assertRaises(NotMix) as caught:
                    function(parse_expression(text), 8)
                self.assertEqual(caught.exception.path, path)
                with self.assertRaises(NotMix):
                    mix_form(parse_expression(text), 8)


if __name__ == "__main__":
    unittest.main()
