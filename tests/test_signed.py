"""[22] Factors and shifts in the place of a signed division."""

import unittest

from wordsalike.signed import least_signed_shift, least_wrong_signed, signed_dividends, signed_factors, told_signed

DIVISORS = [2, 3, 7, 10, 641, 2 ** 31, 2 ** 32 - 1, 2 ** 32 + 1, 2 ** 62, 2 ** 63 - 1, 2 ** 63]
GREATEST = 2 ** 200 - 1


def toward_zero(number, divisor):
    return number // divisor if number >= 0 else -(-number // divisor)


def slow_told(factor, shift, number):
    return factor * number // 2 ** shift + (1 if number < 0 else 0)


def right_at(divisor, factor, shift, number):
    return slow_told(factor, shift, number) == toward_zero(number, divisor)


def some_factors(divisor, shift):
    near = 2 ** shift // divisor
    factors = {0, 1, 2, 2 ** shift, GREATEST, *range(near - 2, near + 4)}
    return sorted(factor for factor in factors if factor >= 0)


class SignedTests(unittest.TestCase):
    def test_examples(self):
        self.assertEqual((signed_factors(3, 8, 7), told_signed(147, 10, -128)), ((43, 43), -18))
        self.assertEqual((least_wrong_signed(7, 147, 10), signed_dividends(3, 8)), (209, (-3, -128, 125)))
        self.assertEqual(least_signed_shift(7, 8), (147, 10))

    def test_told(self):
        for shift in (0, 1, 5, 64, 128, 192):
            for factor in (0, 1, 2, 43, 2 ** shift, 2 ** shift + 1, GREATEST):
                for number in (-2 ** 63, -(2 ** 63) + 1, -200, -2, -1, 0, 1, 2, 200, 2 ** 63 - 1):
                    self.assertEqual(told_signed(factor, shift, number), slow_told(factor, shift, number))
        self.assertEqual([told_signed(1, 1, number) for number in (-3, -2, -1, 0, 1, 2, 3)], [-1, 0, 0, 0, 0, 1, 1])

    def test_small_widths_one_by_one(self):
        for width in range(2, 7):
            half = 2 ** (width - 1)
            for divisor in range(2, half + 1):
                for shift in range(width + 3):
                    self.check_all_factors(width, divisor, shift)

    def check_all_factors(self, width, divisor, shift):
        half = 2 ** (width - 1)
        three = signed_dividends(divisor, width)
        self.assertTrue(all(-half <= x < half for x in three))
        right = []
        for factor in range(2 ** shift + 3):
            good = all([right_at(divisor, factor, shift, x) for x in range(-half, half)])
            self.assertEqual(good, all(right_at(divisor, factor, shift, x) for x in three))
            if good:
                right.append(factor)
        expected = (right[0], right[-1]) if right else None
        self.assertEqual(signed_factors(divisor, width, shift), expected)
        self.assertEqual(len(right), right[-1] - right[0] + 1 if right else 0)

    def test_least_wrong_one_by_one(self):
        for divisor in range(2, 12):
            for shift in range(8):
                for factor in range(2 ** shift + 5):
                    least = least_wrong_signed(divisor, factor, shift)
                    self.assertGreaterEqual(least, 1)
                    self.assertFalse(right_at(divisor, factor, shift, -least))
                    self.assertTrue(all(right_at(divisor, factor, shift, -z) for z in range(1, min(least, 500))))

    def test_least_wrong_of_great_numbers(self):
        for divisor in [*DIVISORS, 2 ** 63 + 1, 2 ** 64 - 1]:
            for shift in (0, 1, 62, 63, 64, 65, 127, 128, 192):
                for factor in some_factors(divisor, shift):
                    least = least_wrong_signed(divisor, factor, shift)
                    self.assertFalse(right_at(divisor, factor, shift, -least))
                    for z in (1, 2, divisor - 1, divisor, divisor + 1, least // 2, least - divisor, least - 2, least - 1):
                        if 1 <= z < least:
                            self.assertTrue(right_at(divisor, factor, shift, -z), (divisor, factor, shift, z))

    def test_dividends(self):
        for width in (2, 3, 8, 32, 63, 64):
            half = 2 ** (width - 1)
            for divisor in [2, half // 2 + 1, half - 1, half, *DIVISORS]:
                if 2 <= divisor <= half:
                    one, below, above = signed_dividends(divisor, width)
                    self.assertEqual(one, -divisor)
                    self.assertEqual((-below % divisor, above % divisor), (divisor - 1, divisor - 1))
                    self.assertTrue(half - divisor < -below <= half)
                    self.assertTrue(half - 1 - divisor < above <= half - 1)

    def test_factors_at_width_64(self):
        for divisor in DIVISORS:
            for shift in (0, 1, 32, 62, 63, 64, 65, 100, 127, 192):
                found = signed_factors(divisor, 64, shift)
                numbers = [*signed_dividends(divisor, 64), -2 ** 63, -1, 0, 1, 2 ** 63 - 1, divisor - 1, 1 - divisor]
                factors = some_factors(divisor, shift)
                if found is not None:
                    low, high = found
                    factors.extend([low, high, (low + high) // 2, low - 1, high + 1])
                for factor in factors:
                    good = factor >= 0 and all(right_at(divisor, factor, shift, x) for x in numbers)
                    self.assertEqual(good, found is not None and found[0] <= factor <= found[1])
                    if good:
                        self.assertGreater(least_wrong_signed(divisor, factor, shift), 2 ** 63)

    def test_least_shift(self):
        for width in range(2, 7):
            for divisor in range(2, 2 ** (width - 1) + 1):
                factor, shift = least_signed_shift(divisor, width)
                self.assertEqual(signed_factors(divisor, width, shift)[0], factor)
                self.assertTrue(all(signed_factors(divisor, width, less) is None for less in range(shift)))
        for divisor in DIVISORS:
            factor, shift = least_signed_shift(divisor, 64)
            self.assertEqual(signed_factors(divisor, 64, shift)[0], factor)
            self.assertTrue(all(signed_factors(divisor, 64, less) is None for less in range(shift)))
            self.assertIsNotNone(signed_factors(divisor, 64, 192))


if __name__ == "__main__":
    unittest.main()
