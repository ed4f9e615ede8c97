"""[64], [65] Lines that wrap round at a modulus; line_mask takes stretches as [54] and [62] tell."""

import unittest

from tests.helpers import narrowest_text, some_random
from wordsalike.lines import count_on_line, least_on_line, line_mask


class Stretch:
    """What [62] tells of a stretch that line_mask may ask."""

    def __init__(self, width, first, count):
        self.width = width
        self.first = 0 if count == 2 ** width else first
        self.extent = count
        self.last = (self.first + count - 1) % 2 ** width
        around = self.first + count > 2 ** width
        self.least = 0 if around else self.first
        self.greatest = 2 ** width - 1 if around else self.last


class LineTests(unittest.TestCase):
    def test_example(self):
        self.assertEqual((least_on_line(4, 16, 5, 5), count_on_line(5, 16, 5, 0, 5)), (4, 2))

    def test_short_lines(self):
        for modulus in range(1, 12):
            for factor in range(modulus):
                for number in range(modulus):
                    numbers = [(number + factor * t) % modulus for t in range(14)]
                    for count in range(1, 15):
                        self.assertEqual(least_on_line(count, modulus, factor, number), min(numbers[:count]))
                        for limit in range(modulus + 1):
                            below = sum(1 for x in numbers[:count] if x < limit)
                            self.assertEqual(count_on_line(count, modulus, factor, number, limit), below)

    def test_random_lines(self):
        rng = some_random(65)
        for _ in range(150):
            modulus = rng.choice((rng.randrange(1, 3000), 2 ** 64, 2 ** 64 - 1, rng.randrange(1, 2 ** 64)))
            factor, number = rng.randrange(modulus), rng.randrange(modulus)
            count = rng.randrange(1, 400)
            numbers = [(number + factor * t) % modulus for t in range(count)]
            self.assertEqual(least_on_line(count, modulus, factor, number), min(numbers))
            for limit in (0, 1, modulus, modulus - 1, rng.randrange(modulus), min(numbers), min(numbers) + 1):
                below = sum(1 for x in numbers if x < limit)
                self.assertEqual(count_on_line(count, modulus, factor, number, limit), below)

    def test_long_lines(self):
        whole = 2 ** 64
        # An odd factor leads to each number once.
        for factor in (1, 3, whole - 1, 12345678901234567891):
            for number in (0, 1, whole - 1, 9876543210987654321):
                self.assertEqual(least_on_line(whole, whole, factor, number), 0)
                for limit in (0, 1, 2, 2 ** 32, whole - 1, whole):
                    self.assertEqual(count_on_line(whole, whole, factor, number, limit), limit)
        # With 2 ** 32 as a factor all numbers keep their low bits.
        self.assertEqual(least_on_line(whole, whole, 2 ** 32, 7), 7)
        self.assertEqual(count_on_line(whole, whole, 2 ** 32, 7, 7), 0)
        self.assertEqual(count_on_line(whole, whole, 2 ** 32, 7, 8), 2 ** 32)
        self.assertEqual(least_on_line(whole, whole, 0, 9), 9)
        self.assertEqual(count_on_line(whole, whole, 0, 9, 10), whole)
        self.assertEqual(count_on_line(whole, whole, 0, 9, 9), 0)
        self.assertEqual(least_on_line(2 ** 63, whole, 1, 2 ** 62), 2 ** 62)
        self.assertEqual(least_on_line(whole, 1, 0, 0), 0)
        self.assertEqual(count_on_line(whole, 1, 0, 0, 0), 0)
        self.assertEqual(count_on_line(whole, 1, 0, 0, 1), whole)
        self.assertEqual(least_on_line(1, whole, 5, whole - 1), whole - 1)

    def test_long_lines_agree(self):
        """The least number of a long line is the first one that is counted."""
        rng = some_random(66)
        for _ in range(60):
            modulus = rng.randrange(2 ** 63, 2 ** 64 + 1)
            factor, number, count = rng.randrange(modulus), rng.randrange(modulus), rng.randrange(1, 2 ** 64 + 1)
            least = least_on_line(count, modulus, factor, number)
            self.assertEqual(count_on_line(count, modulus, factor, number, least), 0)
            self.assertGreater(count_on_line(count, modulus, factor, number, least + 1), 0)
            half = count // 2
            if half > 0:
                limit = rng.randrange(modulus + 1)
                first = count_on_line(half, modulus, factor, number, limit)
                second = count_on_line(count - half, modulus, factor, (number + factor * half) % modulus, limit)
                self.assertEqual(count_on_line(count, modulus, factor, number, limit), first + second)


class LineMaskTests(unittest.TestCase):
    def text(self, width, first, count, factor, number):
        return str(line_mask(Stretch(width, first, count), factor, number))

    def test_example(self):
        self.assertEqual(self.text(4, 1, 3, 6, 0), "???0")

    def test_small_widths(self):
        for width in range(1, 5):
            power = 2 ** width
            for first in range(power):
                for count in range(1, power + 1):
                    stretch = Stretch(width, first, count)
                    words = [(stretch.first + t) % power for t in range(count)]
                    for factor in range(-3, power + 1):
                        for number in (0, 1, -2, power + 5):
                            results = {(factor * x + number) % power for x in words}
                            found = str(line_mask(stretch, factor, number))
                            self.assertEqual(found, narrowest_text(width, results))

    def test_great_factors(self):
        rng = some_random(64)
        for factor in (10 ** 399, -(10 ** 399), 10 ** 400 - 1, rng.randrange(10 ** 400), -1, 0):
            for number in (0, 10 ** 400 - 1, -(10 ** 400 - 1), rng.randrange(10 ** 400)):
                for width in (1, 7, 63, 64):
                    first, count = rng.randrange(2 ** width), rng.randrange(1, min(2 ** width, 200) + 1)
                    stretch = Stretch(width, first, count)
                    results = {(factor * (stretch.first + t) + number) % 2 ** width for t in range(count)}
                    self.assertEqual(str(line_mask(stretch, factor, number)), narrowest_text(width, results))

    def test_long_stretches(self):
        whole = 2 ** 64
        self.assertEqual(self.text(64, 0, whole, 1, 0), "?" * 64)
        self.assertEqual(self.text(64, 5, whole, 3, 10 ** 399), "?" * 64)
        self.assertEqual(self.text(64, 0, whole, 4, 3), "?" * 62 + "11")
        self.assertEqual(self.text(64, 0, whole, 0, -1), "1" * 64)
        self.assertEqual(self.text(64, 0, whole, 2 ** 64, 1), "0" * 63 + "1")
        self.assertEqual(self.text(64, 0, 2 ** 63, 1, 0), "0" + "?" * 63)
        self.assertEqual(self.text(64, 2 ** 63, 2 ** 63, 1, 0), "1" + "?" * 63)
        self.assertEqual(self.text(64, 2 ** 63 - 1, 2, 1, 0), "?" * 64)
        self.assertEqual(self.text(64, whole - 1, 2, 1, 0), "?" * 64)
        self.assertEqual(self.text(64, 7, 1, 2 ** 63, 5), "1" + "0" * 60 + "101")
        self.assertEqual(self.text(64, 0, 2 ** 32, 2 ** 32, 1), "?" * 32 + "0" * 31 + "1")

    def test_it_is_a_mask_of_the_width(self):
        found = line_mask(Stretch(8, 250, 10), 1, 0)
        self.assertEqual((found.width, found.least, found.greatest), (8, 0, 255))


if __name__ == "__main__":
    unittest.main()
