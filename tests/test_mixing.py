"""[51] to [53] The class Mix."""

import itertools
import unittest

from tests.helpers import Other, bush, chain, odd_values, some_random
from tests.slow_mixes import (all_values, extreme_input, inputs_over, is_bitwise, random_bitwise, random_mix,
                              slow_form)
from wordsalike.errors import NoSuchPattern, NotBitwise, NotMix, ParseError, TooDeep, TooLarge, UnequalWidths
from wordsalike.expressions import names_used, value_at
from wordsalike.masks import Mask
from wordsalike.mixes import mix_form
from wordsalike.mixing import Mix
from wordsalike.polynomials import Polynomial
from wordsalike.texts import format_expression, parse_expression

MOST = 10 ** 30 - 1


def values_of(mix, inputs):
    return [mix(*words) for words in inputs]


def join(operation, x, y):
    return {"add": x + y, "sub": x - y, "and": x & y, "or": x | y, "xor": x ^ y}[operation]


def applied(operation, one, other):
    """The operator of an operation on two Mixes."""
    if operation == "add":
        return one + other
    if operation == "sub":
        return one - other
    if operation == "and":
        return one & other
    return one | other if operation == "or" else one ^ other


class ConstructorTests(unittest.TestCase):
    def test_examples(self):
        self.assertEqual((Mix.read("a + 3", 2).first, Mix.read("a + 3", 2).width), (3, 2))

    def test_properties(self):
        rng = some_random(51)
        for width in (1, 2, 3, 8, 63, 64):
            for _ in range(8):
                expression = random_mix(rng, 8)
                mix = Mix(expression, width)
                self.assertEqual((mix.width, mix.first, mix.rows), (width, *mix_form(expression, width)))
                self.assertEqual((mix.first, mix.rows), slow_form(expression, width))
                self.assertEqual(Mix.read(format_expression(expression), width), mix)
                self.assertIs(type(mix), Mix)

    def test_properties_can_only_be_read(self):
        mix = Mix.read("a + 3", 2)
        before = (mix.width, mix.first, mix.rows, str(mix))
        for name in ("width", "first", "rows"):
            with self.assertRaises(AttributeError):
                setattr(mix, name, 5)
        self.assertEqual((mix.width, mix.first, mix.rows, str(mix)), before)

    def test_not_mix(self):
        for text, path in (("a * b", ()), ("a + (b >> 1)", (2,)), ("~(a & (a + 1))", (1,)), ("a < b", ())):
            with self.assertRaises(NotMix) as caught:
                Mix(parse_expression(text), 8)
            self.assertEqual(caught.exception.path, path)
            with self.assertRaises(NotMix) as caught:
                Mix.read(text, 8)
            self.assertEqual(caught.exception.path, path)
        self.assertEqual(Mix.read("a & (a + 1)", 1).first, 0)

    def test_read_errors_in_their_order(self):
        for value in [*odd_values(), Other(), 5, Mix.read("a", 8), ("name", 0)]:
            if not isinstance(value, str):
                with self.assertRaises(ParseError) as caught:
                    Mix.read(value, 8)
                self.assertIsNone(caught.exception.place)
        long_text = format_expression(bush(201))
        deep_text = format_expression(chain(41))
        for text, kind, field in (("a +", ParseError, 3), ("a + b @", ParseError, 6), ("", ParseError, 0),
                                  (long_text + " %", ParseError, len(long_text) + 1), (deep_text + "x", ParseError, 41),
                                  (long_text, TooLarge, 200), (deep_text, TooDeep, 40),
                                  ("a / 3 + " + long_text, TooLarge, 200), (deep_text + " * a", TooDeep, 40),
                                  ("a * b", NotMix, ())):
            with self.assertRaises(kind) as caught:
                Mix.read(text, 8)
            self.assertEqual(list(vars(caught.exception).values()), [field])
        self.assertEqual(Mix.read(format_expression(chain(40)), 8).width, 8)


class OperatorTests(unittest.TestCase):
    def test_examples(self):
        G, H = Mix.read("a", 8), Mix.read("b", 8)
        self.assertTrue((G ^ H) + (G & H) * 2 == G + H)
        self.assertTrue(~(G - Mix.read("1", 8)) == -G)
        self.assertTrue((G << 3).rows == (G * 8).rows)

    def test_all_inputs_of_small_widths(self):
        rng = some_random(52)
        for width, names in ((1, (0, 1, 2, 3)), (2, (0, 1)), (2, (1, 2, 3)), (3, (0, 3)), (4, (2,))):
            inputs, power = inputs_over(names, width), 2 ** width
            for _ in range(12):
                pair = [rng.choice((random_mix, random_bitwise))(rng, 5, names) for _ in range(2)]
                one, other = [Mix(expression, width) for expression in pair]
                first, second = [all_values(expression, inputs, width) for expression in pair]
                self.assertEqual(values_of(one, inputs), first)
                self.check_two(one, other, first, second, inputs)
                for number in (0, 1, -1, 3, power, rng.randrange(-MOST, MOST + 1), MOST, -MOST):
                    self.assertEqual(values_of(one * number, inputs), [x * number % power for x in first])
                for amount in (0, 1, 2, width - 1, width, 63):
                    self.assertEqual(values_of(one << amount, inputs), [x * 2 ** amount % power for x in first])
                self.assertEqual(values_of(-one, inputs), [-x % power for x in first])
                self.assertEqual(values_of(~one, inputs), [power - 1 - x for x in first])
                self.assertEqual(values_of(one, inputs), first)
                self.assertEqual(values_of(other, inputs), second)

    def check_two(self, one, other, first, second, inputs):
        """All operators of two Mixes with these values."""
        width = one.width
        bitwise = [is_bitwise(values, inputs, width) for values in (first, second)]
        for operation in ("add", "sub", "and", "or", "xor"):
            if operation in ("add", "sub") or bitwise == [True, True]:
                found = applied(operation, one, other)
                self.assertEqual((type(found), found.width), (Mix, width))
                expected = [join(operation, x, y) % 2 ** width for x, y in zip(first, second)]
                self.assertEqual(values_of(found, inputs), expected)
            else:
                with self.assertRaises(NotBitwise) as caught:
                    applied(operation, one, other)
                self.assertEqual(caught.exception.index, 0 if not bitwise[0] else 1)

    def test_width_64(self):
        rng = some_random(53)
        for width in (31, 63, 64):
            for _ in range(6):
                pair = [random_bitwise(rng, 8), random_mix(rng, 10)]
                one, other = [Mix(expression, width) for expression in pair]
                for operation in ("add", "sub"):
                    self.assertEqual(applied(operation, one, other), Mix((operation, *pair), width))
                third = random_bitwise(rng, 8)
                for operation in ("and", "or", "xor"):
                    self.assertEqual(applied(operation, one, Mix(third, width)), Mix((operation, pair[0], third), width))
                for number in (rng.randrange(2 ** 64), 5, 0):
                    self.assertEqual(other * number, Mix(("mul", pair[1], ("number", number)), width))
                for number in (MOST, -MOST, -1, 2 ** 64, -2 ** 63):
                    self.assertEqual(other * number, other * (number % 2 ** width))
                for amount in (0, 1, 30, 62, 63):
                    self.assertEqual(other << amount, Mix(("left", pair[1], amount), width))
                self.assertEqual((-other, ~other), (Mix(("neg", pair[1]), width), Mix(("not", pair[1]), width)))

    def test_errors_in_their_order(self):
        bits, sums = Mix.read("a ^ b", 8), Mix.read("a + b", 8)
        for one, other, index in ((sums, bits, 0), (bits, sums, 1), (sums, sums, 0)):
            for operation in ("and", "or", "xor"):
                with self.assertRaises(NotBitwise) as caught:
                    applied(operation, one, other)
                self.assertEqual(caught.exception.index, index)
        narrow = Mix.read("a", 7)
        for one, other in ((sums, narrow), (narrow, sums), (bits, narrow), (Mix.read("2 * a", 64), bits)):
            for operation in ("add", "sub", "and", "or", "xor"):
                with self.assertRaises(UnequalWidths):
                    applied(operation, one, other)
        # A mix that is not bitwise at one width can be so at another one.
        self.assertEqual(Mix.read("a + b", 1) & Mix.read("a - c", 1), Mix.read("(a ^ b) & (a ^ c)", 1))

    def test_operands_do_not_change(self):
        one, other = Mix.read("a ^ b", 8), Mix.read("~a & 7", 8)
        before = [(str(mix), mix.first, mix.rows, mix.width) for mix in (one, other)]
        for operation in ("add", "sub", "and", "or", "xor"):
            self.assertEqual(applied(operation, one, other), applied(operation, one, other))
        results = [one * 5, one << 2, -one, ~one, one(1, 2, 3, 4), one[3], 0 in one, len(one), bool(one)]
        self.assertEqual(len(results), 9)
        self.assertEqual([(str(mix), mix.first, mix.rows, mix.width) for mix in (one, other)], before)


class ValueTests(unittest.TestCase):
    def test_examples(self):
        mix = Mix.read("(a | b) - 3", 8)
        self.assertEqual((mix(1, 2, 0, 0), mix[3], 0 in mix, True in mix, len(mix)), (0, 252, True, False, 2))
        self.assertEqual((bool(mix - mix), str(mix)), (False, "8 bits, first 253, 2 names"))

    def test_extreme_inputs(self):
        rng = some_random(54)
        for width in (1, 2, 8, 63, 64):
            for _ in range(6):
                expression = random_mix(rng, 8)
                mix = Mix(expression, width)
                for pattern in range(16):
                    words = extreme_input(width, pattern)
                    self.assertEqual(mix[pattern], value_at(expression, width, words))
                    self.assertEqual(mix(*words), mix[pattern])
                words = tuple(rng.randrange(2 ** width) for _ in range(4))
                self.assertEqual(mix(*words), value_at(expression, width, words))

    def test_patterns_of_all_kinds(self):
        mix = Mix.read("a + b", 8)
        for value in [*odd_values(), Other(), -1, 16, True, False, "0", 2 ** 64, mix]:
            with self.assertRaises(NoSuchPattern) as caught:
                mix[value]
            self.assertIs(caught.exception.pattern, value)

    def test_names(self):
        rng = some_random(55)
        for width, names in ((1, (0, 1, 2, 3)), (2, (1, 2)), (3, (3,))):
            inputs = inputs_over(names, width)
            for _ in range(15):
                expression = random_mix(rng, 6, names)
                mix = Mix(expression, width)
                values = dict(zip(inputs, all_values(expression, inputs, width)))
                matters = [any(values[words] != values[(*words[:name], 0, *words[name + 1:])] for words in inputs)
                           for name in range(4)]
                self.assertEqual([name in mix for name in range(4)], matters)
                self.assertEqual(len(mix), sum(matters))
                self.assertIs(bool(mix), any(values.values()))
        for value in [*odd_values(), Other(), -1, 4, True, "a", Mix.read("a", 8)]:
            self.assertIs(value in Mix.read("a + b + c + d", 8), False)

    def test_truth(self):
        for text, width, expected in (("0", 8, False), ("256", 8, False), ("256", 9, True), ("a", 1, True),
                                      ("a - a", 64, False), ("a ^ a", 64, False), ("1", 1, True), ("2 * a", 1, False),
                                      ("128 * a", 8, True), ("256 * a", 8, False), ("(a & b) - (b & a)", 8, False)):
            self.assertIs(bool(Mix.read(text, width)), expected)
            self.assertEqual(len(Mix.read(text, width)) > 0, "a" in text and expected)

    def test_equal(self):
        texts = ("a", "b", "a + b", "b + a", "(a ^ b) + 2 * (a & b)", "(a | b) + (a & b)", "~a", "-a - 1", "a ^ a", "0")
        mixes = [Mix.read(text, width) for text in texts for width in (1, 2, 64)]
        inputs = inputs_over((0, 1), 2)
        for one, other in itertools.product(mixes, repeat=2):
            equal = one.width == other.width and one.first == other.first and one.rows == other.rows
            self.assertIs(one == other, equal)
            self.assertIs(one != other, not equal)
            if one.width == other.width == 2:
                self.assertIs(one == other, values_of(one, inputs) == values_of(other, inputs))
        mix = Mix.read("a", 8)
        for value in [*odd_values(), Other(), ("name", 0), Mask(8, 0, 255), Polynomial((0, 1), 8), mix.rows, str(mix)]:
            self.assertIs(mix == value, False)
            self.assertIs(mix != value, True)

    def test_text(self):
        for text, width, expected in (("0", 1, "1 bits, first 0, 0 names"), ("a ^ b ^ c ^ d", 64,
                                      "64 bits, first 0, 4 names"), ("~d", 64, f"64 bits, first {2 ** 64 - 1}, 1 names")):
            self.assertEqual(str(Mix.read(text, width)), expected)
        self.assertEqual(names_used(parse_expression("a - a")), (0,))
        self.assertEqual(str(Mix.read("a - a", 8)), "8 bits, first 0, 0 names")


if __name__ == "__main__":
    unittest.main()
