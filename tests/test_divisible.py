"""[21] Remainders tested by a product that wraps round."""

import unittest

from tests.helpers import some_random
from wordsalike.divisible import opposite_of, passes_test, residue_test
from wordsalike.errors import Even


def slow_passes(test, width, word):
    """[21] by its words."""
    remainder, factor, turn, bound = test
    product = factor * (word - remainder) % 2 ** width
    return product // 2 ** turn + product % 2 ** turn * 2 ** (width - turn) <= bound


class OppositeTests(unittest.TestCase):
    def test_example(self):
        self.assertEqual(opposite_of(7, 8), 183)

    def test_small_widths(self):
        for width in range(1, 9):
            for number in range(2 ** width):
                if number % 2 == 0:
                    self.check_even(number, width)
                    continue
                found = opposite_of(number, width)
                self.assertTrue(0 <= found < 2 ** width)
                self.assertEqual(found * number % 2 ** width, 1)

    def check_even(self, number, width):
        with self.assertRaises(Even) as caught:
            opposite_of(number, width)
        self.assertEqual(caught.exception.number, number)

    def test_all_widths(self):
        rng = some_random(21)
        for width in range(1, 65):
            top = 2 ** width - 1
            for number in (1, 3 % 2 ** width, top, top // 2 | 1, top // 3 | 1, rng.randrange(2 ** width) | 1):
                found = opposite_of(number, width)
                self.assertTrue(0 <= found <= top)
                self.assertEqual(found * number % 2 ** width, 1)
            for number in (0, top - 1, 2 ** (width - 1) if width > 1 else 0):
                self.check_even(number, width)


class ResidueTests(unittest.TestCase):
    def test_examples(self):
        self.assertEqual((residue_test(7, 8, 3), residue_test(12, 8, 0)), ((3, 183, 0, 36), (0, 171, 2, 21)))
        found = [x for x in range(40) if passes_test((3, 183, 0, 36), 8, x)]
        self.assertEqual(found, [3, 10, 17, 24, 31, 38])

    def test_small_widths_one_by_one(self):
        for width in range(2, 7):
            for divisor in range(2, 2 ** width):
                for remainder in range(divisor):
                    self.check_all_words(width, divisor, remainder)

    def test_widths_with_ends(self):
        for width in (7, 8):
            for divisor in (2, 3, 4, 6, 12, 63, 64, 65, 96, 100, 126, 127, 2 ** width - 2, 2 ** width - 1):
                if divisor < 2 ** width:
                    for remainder in sorted({0, 1, divisor // 2, divisor - 1}):
                        self.check_all_words(width, divisor, remainder)

    def check_all_words(self, width, divisor, remainder):
        test = residue_test(divisor, width, remainder)
        passed = [word for word in range(2 ** width) if passes_test(test, width, word)]
        self.assertEqual(passed, list(range(remainder, 2 ** width, divisor)))

    def test_parts(self):
        for width in (2, 3, 8, 31, 32, 63, 64):
            top = 2 ** width - 1
            for divisor in (2, 3, 2 ** (width - 1), top // 2, top // 3 * 2, top - 1, top):
                if divisor >= 2:
                    self.check_parts(width, divisor)

    def check_parts(self, width, divisor):
        for remainder in sorted({0, 1, divisor // 3, divisor - 1}):
            found = residue_test(divisor, width, remainder)
            turn = max(k for k in range(width) if divisor % 2 ** k == 0)
            self.assertEqual(found[0], remainder)
            self.assertEqual(found[1], opposite_of(divisor // 2 ** turn, width))
            self.assertEqual(found[2:], (turn, (2 ** width - 1 - remainder) // divisor))

    def test_width_64(self):
        rng = some_random(22)
        top = 2 ** 64 - 1
        for divisor in (2, 3, 7, 12, 641, 2 ** 32, 2 ** 32 - 1, 3 * 2 ** 40, 2 ** 63, 2 ** 63 + 2, top - 1, top):
            for remainder in sorted({0, 1, divisor // 2, divisor - 1}):
                test = residue_test(divisor, 64, remainder)
                last = (top - remainder) // divisor * divisor + remainder
                words = {0, 1, top, top - 1, divisor - 1, remainder, last, last - 1, min(last + 1, top)}
                words |= {rng.randrange(2 ** 64) for _ in range(5)}
                words |= {rng.randrange(last // divisor + 1) * divisor + remainder for _ in range(5)}
                for word in words:
                    if 0 <= word <= top:
                        self.assertIs(passes_test(test, 64, word), word % divisor == remainder)


class PassesTests(unittest.TestCase):
    def test_any_test(self):
        rng = some_random(23)
        for width in range(1, 6):
            top = 2 ** width - 1
            for _ in range(60):
                test = (rng.randrange(top + 1), rng.randrange(top + 1), rng.randrange(width), rng.randrange(top + 1))
                for word in range(top + 1):
                    self.assertIs(passes_test(test, width, word), slow_passes(test, width, word))

    def test_any_test_at_width_64(self):
        rng = some_random(24)
        top = 2 ** 64 - 1
        for turn in (0, 1, 31, 62, 63):
            for _ in range(40):
                words = [rng.choice((0, 1, top, rng.randrange(top + 1))) for _ in range(4)]
                test = (words[0], words[1], turn, words[2])
                self.assertIs(passes_test(test, 64, words[3]), slow_passes(test, 64, words[3]))

    def test_the_bound_itself_passes(self):
        for bound in range(8):
            self.assertEqual([passes_test((0, 1, 0, bound), 3, x) for x in range(8)], [x <= bound for x in range(8)])


if __name__ == "__main__":
    unittest.main()
