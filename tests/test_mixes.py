"""[38] to [43] Mixes and their forms."""

import itertools
import unittest

from tests.helpers import bush, chain, random_expression, some_random
from tests.slow_mixes import (ALL_OPERATIONS, all_values, extreme_input, inputs_over, node_over, one_bit_input,
                              pattern_at, random_bitwise, random_mix, slow_fault, slow_form)
from wordsalike.errors import NotMix
from wordsalike.expressions import names_used, node_count, value_at
from wordsalike.mixes import bit_difference, least_difference, low_agreement, mix_form, mixes_alike, name_matters
from wordsalike.mixforms import mix_value
from wordsalike.texts import parse_expression

A, B, C, D = [("name", name) for name in range(4)]
TOP = 2 ** 64 - 1
SUM, SUM_OF_BITS = parse_expression("a + b"), parse_expression("(a ^ b) + 2 * (a & b)")


def number(n):
    return ("number", n)


def telescope(rng, names):
    """A mix that is alike to a name at all widths, and no name itself."""
    one = random_bitwise(rng, 5, names)
    return ("add", ("and", A, one), ("and", A, ("not", one)))


class FormTests(unittest.TestCase):
    def check_form(self, expression, width):
        """The form or the error, by the words of [38]; returns whether it is a mix."""
        fault = slow_fault(expression, width)
        if fault is not None:
            self.check_fault(expression, width, fault)
            return False
        found = mix_form(expression, width)
        self.assertEqual(found, slow_form(expression, width))
        self.check_values(expression, width, found, inputs_over(names_used(expression), width))
        return True

    def check_fault(self, expression, width, path):
        with self.assertRaises(NotMix) as caught:
            mix_form(expression, width)
        self.assertEqual(caught.exception.path, path, (expression, width))

    def check_values(self, expression, width, form, inputs):
        """The value for each input is the sum that [38] tells."""
        first, rows = form
        for words in inputs:
            total = first
            for bit in range(width):
                pattern = pattern_at(words, bit)
                total += 2 ** bit * (rows[bit][pattern - 1] if pattern else 0)
            self.assertEqual(total % 2 ** width, value_at(expression, width, words))

    def test_examples(self):
        zeros, ones = (0,) * 15, (1, 0) * 7 + (1,)
        self.assertEqual(mix_form(parse_expression("a & 2"), 2), (0, (zeros, ones)))
        self.check_fault(parse_expression("b * 3 + (a & (a + 1))"), 8, (2,))

    def test_names_and_numbers(self):
        for width in range(1, 65):
            for name in range(4):
                row = tuple(pattern >> name & 1 for pattern in range(1, 16))
                self.assertEqual(mix_form(("name", name), width), (0, (row,) * width))
            for n in (0, 1, 5, 2 ** 63, TOP):
                self.assertEqual(mix_form(number(n), width), (n % 2 ** width, ((0,) * 15,) * width))

    def test_each_operation_over_each_other_one(self):
        leaves = [(A, B, number(1)), (number(2), A, A), (A, number(3), B)]
        found = 0
        for outer, inner in itertools.product(ALL_OPERATIONS[2:], repeat=2):
            for parts in leaves:
                for expression in (node_over(outer, (node_over(inner, parts), B, A)),
                                   node_over(outer, (number(3), node_over(inner, parts, 2), node_over(inner, parts)))):
                    for width in (1, 2):
                        found += self.check_form(expression, width)
        self.assertGreater(found, 300)

    def test_all_widths_up_to_three(self):
        rng = some_random(38)
        for width in (1, 2, 3):
            for names in ((0, 1), (2, 3), (0, 1, 3)[:4 - width], (3,)):
                for size in (3, 6, 10, 14):
                    for _ in range(12 // width):
                        self.assertTrue(self.check_form(random_mix(rng, size, names), width))
        for _ in range(40):
            self.check_form(random_mix(rng, 12), 1)
        for _ in range(4):
            self.check_form(random_mix(rng, 8), 2)

    def test_expressions_of_all_kinds(self):
        rng = some_random(39)
        for width in (1, 2):
            for _ in range(150):
                self.check_form(random_expression(rng, rng.randrange(2, 9)), width)

    def test_width_64(self):
        rng = some_random(40)
        for width in (31, 63, 64):
            for size in (5, 20, 60):
                for _ in range(4):
                    expression = random_mix(rng, size)
                    form = mix_form(expression, width)
                    self.assertEqual(form, slow_form(expression, width))
                    inputs = [tuple(rng.randrange(2 ** width) for _ in range(4)) for _ in range(4)]
                    inputs.append((2 ** width - 1,) * 4)
                    self.check_values(expression, width, form, inputs)
                    for words in inputs:
                        self.assertEqual(mix_value(form, width, words), value_at(expression, width, words))
                    for row, bits in zip(form[1], range(width, 0, -1)):
                        self.assertEqual(len(row), 15)
                        self.assertTrue(all(0 <= n < 2 ** bits for n in row))

    def test_products(self):
        for text, width, path in (
                ("(a - a) * b", 8, None), ("b * (a ^ a)", 8, None), ("(a & 0) * (b * 3)", 8, None), ("a * b", 8, ()),
                ("a * a", 8, ()), ("a * a", 1, ()), ("(a + (~a + 1)) * (b + c)", 64, None), ("(a << 8) * b", 8, None),
                ("(a << 8) * b", 9, ()), ("(a * 2) * b", 1, None), ("(a * 2) * b", 2, ()), ("3 * (a * b)", 8, (2,)),
                ("(a | ~a) * (b + d)", 64, None), ("a * b * 0", 8, (1,)), ("7 * 9 * a", 4, None)):
            expression = parse_expression(text)
            if path is not None:
                self.check_fault(expression, width, path)
            else:
                self.assertEqual(mix_form(expression, width), slow_form(expression, width))

    def test_parts_that_are_bitwise_although_they_hold_a_sum(self):
        for text, width, path in (
                ("(a + b - 2 * (a & b)) & c", 64, None), ("(a + b - (a & b)) | c", 64, None), ("(a + b) & c", 8, ()),
                ("(a + b) & c", 1, None), ("(~a + 1) ^ b", 8, ()), ("(-1 - a) ^ b", 8, None), ("(-a) ^ b", 1, None),
                ("c & (a + b)", 8, ()), ("(a & 4) + (b & 3) & c", 8, None), ("(a & 4) + (b & 4) & c", 8, ()),
                ("(a & 4) + (b & 4) & c", 3, None), ("(a + 128) & b", 8, None), ("(a + 64) & b", 8, ()),
                ("(a << 1) | b", 8, ()), ("(a << 1) | b", 1, None), ("(a << 7) | b", 8, ()), ("(a << 8) | b", 8, None),
                ("(3 * a) & b", 1, None), ("(3 * a) & b", 2, ()), ("(a - 1) & a", 1, None), ("(a - 1) & a", 2, ())):
            expression = parse_expression(text)
            if path is not None:
                self.check_fault(expression, width, path)
            else:
                self.assertEqual(mix_form(expression, width), slow_form(expression, width))

    def test_the_first_of_several_faults(self):
        for text, path in (
                ("(a * b) + (c * d)", (1,)), ("a + (c * d) * (a / 3)", (2, 1)), ("(a & (a + 1)) * (b >> 1)", (1,)),
                ("a ? b * c : (d < a)", (2,)), ("a ? b : c", ()), ("a == b", ()), ("(a + b) mod 3", ()),
                ("~(-(a >> 1))", (1, 1)), ("a * b * c", (1,)), ("(a >>> 2) + (b / 2)", (1,)), ("2 >> 1", ()),
                ("(5 < 3) & a", (1,)), ("a + (b * (c ? 1 : 2))", (2, 2)), ("(c * d & a) ^ (a / 2)", (1, 1))):
            self.check_fault(parse_expression(text), 8, path)

    def test_limits(self):
        self.assertEqual(mix_form(chain(40), 64)[0], TOP)
        self.assertEqual(node_count(bush(200)), 200)
        self.assertEqual(mix_form(bush(200), 64), slow_form(bush(200), 64))


class CompareTests(unittest.TestCase):
    def check_pair(self, one, other, width):
        """[40] to [42] against all inputs."""
        names = {*names_used(one), *names_used(other)}
        inputs = inputs_over(names, width)
        first, second = all_values(one, inputs, width), all_values(other, inputs, width)
        differ = [words for words, x, y in zip(inputs, first, second) if x != y]
        self.assertIs(mixes_alike(one, other, width), not differ)
        self.assertEqual(least_difference(one, other, width), differ[0] if differ else None)
        low = max(t for t in range(width + 1) if all((x - y) % 2 ** t == 0 for x, y in zip(first, second)))
        self.assertEqual(low_agreement(one, other, width), low)
        self.check_bit_difference(one, other, width)

    def check_bit_difference(self, one, other, width):
        found = bit_difference(one, other, width)
        if found is None:
            self.assertIs(mixes_alike(one, other, width), True)
            return
        self.assertIs(mixes_alike(one, other, width), False)
        self.assertEqual((type(found), len(found)), (tuple, 4))
        bits = {word for word in found if word != 0}
        self.assertLessEqual(bits, {2 ** bit for bit in range(width)})
        self.assertLessEqual(len(bits), 1)
        self.assertNotEqual(value_at(one, width, found), value_at(other, width, found))

    def test_examples(self):
        self.assertIs(mixes_alike(SUM, SUM_OF_BITS, 64), True)
        self.assertIsNone(bit_difference(SUM, SUM_OF_BITS, 64))
        self.assertIs(mixes_alike(SUM, parse_expression("a | b"), 8), False)
        self.assertEqual(least_difference(SUM, parse_expression("a | b"), 64), (1, 1, 0, 0))
        self.assertEqual(least_difference(parse_expression("4 * a"), number(0), 3), (1, 0, 0, 0))
        pairs = [(SUM, "a ^ b"), (parse_expression("3 * a"), "-a"), (parse_expression("~(a - 1)"), "-a")]
        self.assertEqual([low_agreement(one, parse_expression(text), 8) for one, text in pairs], [1, 2, 8])

    def test_small_widths_one_by_one(self):
        rng = some_random(41)
        for width, names, many in ((1, (0, 1, 2, 3), 150), (2, (0, 1), 120), (2, (1, 2, 3), 25), (3, (0, 3), 60),
                                   (3, (1, 2), 40), (2, (0, 1, 2, 3), 8), (3, (0, 1, 3), 3)):
            for _ in range(many):
                one, other = random_mix(rng, 7, names), random_mix(rng, 7, names)
                self.check_pair(one, other, width)
                self.check_pair(one, ("add", one, ("mul", number(2 ** (width - 1)), other)), width)
                self.check_pair(one, ("sub", ("add", one, other), other), width)

    def test_alike_at_all_widths(self):
        rng = some_random(42)
        for width in (1, 2, 31, 63, 64):
            for _ in range(20):
                one = telescope(rng, (0, 1, 2, 3))
                self.assertIs(mixes_alike(one, A, width), True)
                self.assertIsNone(bit_difference(A, one, width))
                self.assertIsNone(least_difference(one, A, width))
                self.assertEqual(low_agreement(one, A, width), width)

    def test_known_differences_of_the_width_64(self):
        for bit in (0, 1, 31, 62, 63):
            power = 2 ** bit
            four = parse_expression(f"a & b & c & d & {power}")
            for text, words in (("a", (power, 0, 0, 0)), ("b", (0, power, 0, 0)), ("d", (0, 0, 0, power)),
                                ("a & d", (power, 0, 0, power)), ("b & c", (0, power, power, 0)),
                                ("a & b & c & d", (power,) * 4), ("~c", (0, 0, 0, 0)), ("a & ~d", (power, 0, 0, 0))):
                extra = parse_expression(f"({text}) & {power}")
                other = ("add", SUM, extra)
                self.assertEqual(least_difference(SUM, other, 64), words)
                self.assertEqual(least_difference(other, SUM, 64), words)
                self.assertIs(mixes_alike(SUM, other, 64), False)
                self.assertEqual(low_agreement(SUM, other, 64), bit)
                self.check_bit_difference(SUM, other, 64)
            self.assertEqual(bit_difference(SUM, ("add", four, SUM), 64), (power,) * 4)
            self.assertEqual(bit_difference(SUM, ("add", SUM, number(power)), 64), (0, 0, 0, 0))
            self.assertEqual(least_difference(SUM, ("add", SUM, number(power)), 64), (0, 0, 0, 0))
            self.assertEqual(low_agreement(SUM, ("add", SUM, number(power)), 64), bit)
            self.assertEqual(low_agreement(("mul", number(power), A), number(0), 64), bit)

    def test_words_that_differ_at_several_bits(self):
        # The least word of a needs one bit, that of b another one.
        for text, words in (("(a & 8) + (b & 4)", (0, 4, 0, 0)), ("(a & b & 16) + (a & 32)", (16, 16, 0, 0)),
                            ("(a & b & 16) + (a & 8)", (8, 0, 0, 0)), ("(a & b & 4) + (a & c & 4)", (4, 0, 4, 0)),
                            ("(a & c & 2) - (a & 2)", (2, 0, 0, 0)), ("(a & c & 2) + (b & d & 8)", (0, 8, 0, 8)),
                            ("(a & b & 4) - (a & 4) + (b & 2)", (0, 2, 0, 0)),
                            ("(a & 4) - (a & b & 4)", (4, 0, 0, 0)), ("a * 4 + (a & b & 2)", (1, 0, 0, 0))):
            for width in (6, 64):
                self.assertEqual(least_difference(number(0), parse_expression(text), width), words)

    def test_least_inputs_of_few_bits(self):
        rng = some_random(43)
        bits = [0, 1, 62, 63]
        candidates = list(itertools.product([0, *[2 ** bit for bit in bits]], repeat=4))
        mask = number(sum(2 ** bit for bit in bits))
        for _ in range(12):
            terms = [("and", random_bitwise(rng, 6), mask) for _ in range(3)]
            one = ("sub", ("add", terms[0], terms[1]), ("mul", number(rng.choice((1, 2, 2 ** 62))), terms[2]))
            other = number(value_at(one, 64, (0, 0, 0, 0)))
            differ = [words for words in candidates if value_at(one, 64, words) != other[1]]
            self.assertEqual(least_difference(one, other, 64), min(differ, default=None))

    def test_errors(self):
        good, bad, worse = A, parse_expression("a + (b * c)"), parse_expression("b / 3")
        for function in (mixes_alike, bit_difference, least_difference, low_agreement):
            for one, other, path in ((bad, good, (2,)), (good, bad, (2,)), (bad, worse, (2,)), (worse, bad, ()),
                                     (worse, worse, ())):
                with self.assertRaises(NotMix) as caught:
                    function(one, other, 8)
                self.assertEqual(caught.exception.path, path)
            function(bad[1], good, 8)


class NameTests(unittest.TestCase):
    def test_examples(self):
        found = [name_matters(parse_expression("(a & b) + (a & ~b)"), 8, k) for k in range(4)]
        self.assertEqual(found, [True, False, False, False])

    def test_small_widths_one_by_one(self):
        rng = some_random(44)
        for width, names, many in ((1, (0, 1, 2, 3), 80), (2, (0, 1), 60), (2, (1, 2, 3), 20), (3, (0, 3), 20)):
            for _ in range(many):
                expression = random_mix(rng, 6, names)
                values = dict(zip(inputs_over(names, width),
                                  all_values(expression, inputs_over(names, width), width)))
                for name in range(4):
                    expected = any(values[words] != values[(*words[:name], 0, *words[name + 1:])] for words in values)
                    self.assertIs(name_matters(expression, width, name), expected)

    def test_width_64(self):
        for name in range(4):
            for bit in (0, 1, 62, 63):
                one = ("and", ("name", name), number(2 ** bit))
                self.assertEqual([name_matters(one, 64, k) for k in range(4)], [k == name for k in range(4)])
                less = ("left", ("and", ("name", name), number(2 ** bit)), 64 - bit if bit else 63)
                self.assertEqual([name_matters(less, 64, k) for k in range(4)],
                                 [k == name and bit == 0 for k in range(4)])
        every = parse_expression("a & b & c & d & 9223372036854775808")
        self.assertEqual([name_matters(every, 64, k) for k in range(4)], [True] * 4)
        self.assertEqual([name_matters(every, 63, k) for k in range(4)], [False] * 4)

    def test_errors(self):
        for name in range(4):
            with self.assertRaises(NotMix) as caught:
                name_matters(parse_expression("a + (b >> 1)"), 8, name)
            self.assertEqual(caught.exception.path, (2,))

    def test_inputs(self):
        self.assertEqual((extreme_input(3, 5), one_bit_input(2, 6)), ((7, 0, 7, 0), (0, 4, 4, 0)))


if __name__ == "__main__":
    unittest.main()
