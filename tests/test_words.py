"""[3], [5] The limits, integers, widths and words."""

import unittest

from tests.helpers import odd_values
from wordsalike import bounds
from wordsalike.words import is_input, is_integer, is_width, is_word, signed_value, to_word, twos_in


class BoundTests(unittest.TestCase):
    def test_values(self):
        told = {"SHORT": 60, "WIDTH": 64, "NODES": 200, "DEPTH": 40, "ROWS": 60, "WIDE": 200, "STEPS": 1000,
                "SLOTS": 10, "BATCH": 20, "FACTORS": 255}
        self.assertEqual({name: getattr(bounds, name) for name in told}, told)


class WordTests(unittest.TestCase):
    def test_examples(self):
        self.assertEqual((to_word(-3, 8), signed_value(253, 8), signed_value(1, 1)), (253, -3, -1))

    def test_to_word(self):
        numbers = [0, 1, -1, 2, -2, 255, 256, -255, -256, 10 ** 399, -(10 ** 399), 10 ** 400 - 1, -(10 ** 400 - 1)]
        for width in range(1, 65):
            power = 2 ** width
            for number in [*numbers, power - 1, power, power + 1, -power, -power - 1, power // 2]:
                word = to_word(number, width)
                self.assertTrue(0 <= word < power)
                self.assertEqual((number - word) % power, 0)

    def test_signed_value(self):
        for width in range(1, 9):
            values = [signed_value(word, width) for word in range(2 ** width)]
            half = 2 ** width // 2
            self.assertEqual(values, [*range(half), *range(-half, 0)])
        for width in range(1, 65):
            half = 2 ** (width - 1)
            self.assertEqual(signed_value(half - 1, width), half - 1)
            self.assertEqual(signed_value(half, width), -half)
            self.assertEqual(signed_value(2 * half - 1, width), -1)
            self.assertEqual(signed_value(0, width), 0)

    def test_kinds(self):
        for value in odd_values():
            self.assertEqual(is_integer(value), type(value) is int)
            self.assertFalse(is_width(value))
            self.assertFalse(is_word(value, 64))
        self.assertEqual([width for width in range(-2, 70) if is_width(width)], list(range(1, 65)))
        self.assertEqual([word for word in range(-2, 12) if is_word(word, 3)], list(range(8)))
        self.assertTrue(is_word(2 ** 64 - 1, 64))
        self.assertFalse(is_word(1, 0) or is_word(2, 1) or is_word(True, 1))

    def test_inputs(self):
        for value in [*odd_values(), (0, 0, 0), (0,) * 5, [0] * 4, (0, 0, 0, 8), (0, -1, 0, 0), (0, 0, True, 0)]:
            self.assertIs(is_input(value, 3), False)
        for value in ((0, 0, 0, 0), (7, 0, 7, 1)):
            self.assertIs(is_input(value, 3), True)
        self.assertIs(is_input((2 ** 64 - 1,) * 4, 64), True)

    def test_twos_in(self):
        self.assertEqual([twos_in(number) for number in (1, 2, 3, 4, 6, 8, 12, 96)], [0, 1, 0, 2, 1, 3, 2, 5])
        for twos in (0, 1, 63, 64, 200):
            for odd in (1, 3, -1, -7, 2 ** 64 - 1):
                self.assertEqual(twos_in(odd * 2 ** twos), twos)


if __name__ == "__main__":
    unittest.main()
