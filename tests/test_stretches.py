"""[54], [62] to [64] Stretches."""

import itertools
import unittest

from tests.helpers import Other, narrowest_text, odd_values, some_random
from wordsalike.errors import BadCount, BadWidth, BadWord, NoSuchIndex, UnequalWidths
from wordsalike.lines import line_mask
from wordsalike.masks import Mask
from wordsalike.stretches import Stretch, scaled_stretch

TOP = 2 ** 64 - 1
GREAT = 10 ** 400 - 1


def words_of(stretch):
    return [(stretch.first + k) % 2 ** stretch.width for k in range(stretch.extent)]


def told(stretch):
    return (stretch.width, stretch.first, stretch.extent)


def all_stretches(width):
    power = 2 ** width
    found = [Stretch(width, first, count) for first in range(power) for count in range(1, power)]
    return [*found, Stretch(width, 0, power)]


def slow_narrowest(width, words):
    """(first, count): the smallest count, then the least first, with which all words are in it."""
    power = 2 ** width
    for count in range(1, power + 1):
        for first in range(power):
            if all((word - first) % power < count for word in words):
                return (0 if count == power else first, count)
    return None


class ConstructorTests(unittest.TestCase):
    def test_examples(self):
        some = Stretch(4, 14, 3)
        self.assertEqual((some.last, some.least, some.greatest, some[2], str(some)), (0, 0, 15, 0, "14..0 at 4 bits"))
        found = Stretch.narrowest(4, (2, 6, 12))
        self.assertEqual((found.first, found.extent), (2, 11))

    def test_small_widths(self):
        for width in range(1, 5):
            power = 2 ** width
            for first, count in itertools.product(range(power), range(1, power + 1)):
                some = Stretch(width, first, count)
                words = [(first + k) % power for k in range(count)]
                begin = 0 if count == power else first
                self.assertEqual(told(some), (width, begin, count))
                last = power - 1 if count == power else words[-1]
                self.assertEqual((some.last, some.least, some.greatest), (last, min(words), max(words)))
                self.assertEqual(str(some), f"{begin}..{last} at {width} bits")
                self.assertEqual([word for word in range(power) if word in some], sorted(words))
                self.assertEqual([some[k] for k in range(count)], [(begin + k) % power for k in range(count)])

    def check_error(self, kind, field, *arguments):
        with self.assertRaises(kind) as caught:
            Stretch(*arguments)
        self.assertIs(list(vars(caught.exception).values())[0], field)

    def test_errors_in_their_order(self):
        for value in [*odd_values(), Other(), 0, 65, Mask(4, 0, 0), Stretch(4, 0, 1)]:
            self.check_error(BadWidth, value, value, value, value)
            self.check_error(BadWidth, value, value, 0, 1)
            if value not in (0, 65) or isinstance(value, bool):
                self.check_error(BadWord, value, 6, value, value)
                self.check_error(BadWord, value, 6, value, 1)
                if value != 2 ** 64:
                    self.check_error(BadCount, value, 64, 0, value)
        self.check_error(BadCount, 0, 8, 0, 0)
        self.check_error(BadCount, True, 8, 0, True)
        for width in (1, 2, 8, 63, 64):
            power = 2 ** width
            self.check_error(BadWord, power, width, power, 0)
            self.check_error(BadWord, -1, width, -1, power + 1)
            for count in (0, -1, power + 1):
                self.check_error(BadCount, count, width, power - 1, count)
            for count in (1, power - 1, power):
                self.assertEqual(Stretch(width, power - 1, count).extent, count)

    def test_ends_of_width_64(self):
        for first, count, expected in (
                (5, 1, (5, 5, 5, 5)), (TOP, 1, (TOP, TOP, TOP, TOP)), (TOP, 2, (TOP, 0, 0, TOP)),
                (0, TOP, (0, TOP - 1, 0, TOP - 1)), (1, TOP, (1, TOP, 1, TOP)), (2, TOP, (2, 0, 0, TOP)),
                (7, 2 ** 64, (0, TOP, 0, TOP)), (2 ** 63, 2 ** 63, (2 ** 63, TOP, 2 ** 63, TOP)),
                (2 ** 63, 2 ** 63 + 1, (2 ** 63, 0, 0, TOP))):
            some = Stretch(64, first, count)
            self.assertEqual((some.first, some.last, some.least, some.greatest), expected)
            self.assertEqual((some.extent, some[0], some[count - 1]), (count, expected[0], expected[1]))
            self.assertTrue(all(word in some for word in expected))

    def test_properties_can_only_be_read(self):
        some = Stretch(4, 14, 3)
        for name in ("width", "first", "last", "extent", "least", "greatest"):
            with self.assertRaises(AttributeError):
                setattr(some, name, 1)
        self.assertEqual(str(some), "14..0 at 4 bits")

    def test_equal(self):
        stretches = [*all_stretches(1), *all_stretches(2), Stretch(3, 0, 1), Stretch(3, 0, 8), Stretch(3, 4, 8)]
        for one, other in itertools.product(stretches, repeat=2):
            self.assertIs(one == other, told(one) == told(other))
            self.assertIs(one != other, told(one) != told(other))
        for value in [*odd_values(), Other(), (4, 14, 3), "14..0 at 4 bits", Mask(4, 0, 15)]:
            self.assertIs(Stretch(4, 14, 3) == value, False)
        self.assertFalse(Mask.read("????") == Stretch(4, 0, 16))


class WordTests(unittest.TestCase):
    def test_values_of_all_kinds(self):
        for some in (Stretch(4, 14, 3), Stretch(1, 0, 2), Stretch(64, TOP, 2 ** 63)):
            for value in [*odd_values(), Other(), -1, 2 ** 64, True, False, some, Mask(4, 0, 0), "0"]:
                self.assertIs(value in some, False)
                with self.assertRaises(NoSuchIndex) as caught:
                    some[value]
                self.assertIs(caught.exception.index, value)
            with self.assertRaises(NoSuchIndex):
                some[some.extent]


class NarrowestTests(unittest.TestCase):
    def test_small_widths(self):
        for width, many in ((1, 2), (2, 4), (3, 8), (4, 3)):
            for size in range(1, many + 1):
                for words in itertools.combinations(range(2 ** width), size):
                    found = Stretch.narrowest(width, words)
                    self.assertEqual((found.first, found.extent), slow_narrowest(width, words))

    def test_words_in_any_order_and_several_times(self):
        rng = some_random(62)
        for _ in range(200):
            width = rng.randrange(1, 6)
            words = tuple(rng.randrange(2 ** width) for _ in range(rng.randrange(1, 7)))
            found = Stretch.narrowest(width, words)
            self.assertEqual((found.first, found.extent), slow_narrowest(width, words))
        self.assertEqual(told(Stretch.narrowest(4, (9, 1, 9, 1, 1))), (4, 1, 9))

    def test_several_narrowest_ones(self):
        # The gaps are equal: the one with the least first is told.
        self.assertEqual(told(Stretch.narrowest(4, (0, 8))), (4, 0, 9))
        self.assertEqual(told(Stretch.narrowest(4, (15, 7))), (4, 7, 9))
        self.assertEqual(told(Stretch.narrowest(4, (3, 7, 11, 15))), (4, 3, 13))
        self.assertEqual(told(Stretch.narrowest(64, (2 ** 63 + 5, 5))), (64, 5, 2 ** 63 + 1))
        self.assertEqual(told(Stretch.narrowest(64, (0, TOP))), (64, TOP, 2))
        self.assertEqual(told(Stretch.narrowest(64, (TOP,))), (64, TOP, 1))


class OperatorTests(unittest.TestCase):
    def test_examples(self):
        both = Stretch(4, 14, 3) + Stretch(4, 1, 2)
        self.assertEqual((both.first, both.extent), (15, 4))
        found = [str(part) for part in Stretch(4, 14, 5).common_with(Stretch(4, 1, 15))]
        self.assertEqual(found, ["1..2 at 4 bits", "14..15 at 4 bits"])

    def test_all_words_of_small_widths(self):
        for width in (1, 2, 3):
            power = 2 ** width
            for one, other in itertools.product(all_stretches(width), repeat=2):
                first, second = words_of(one), words_of(other)
                self.assertEqual(set(words_of(one + other)), {(x + y) % power for x in first for y in second})
                self.assertEqual(set(words_of(one - other)), {(x - y) % power for x in first for y in second})
                common = one.common_with(other)
                self.check_common(common, sorted(set(first) & set(second)))
                union = one.union_with(other)
                self.assertEqual((union.first, union.extent), slow_narrowest(width, {*first, *second}))
            for one in all_stretches(width):
                self.assertEqual(set(words_of(-one)), {-x % power for x in words_of(one)})
                self.assertEqual(set(words_of(~one)), {power - 1 - x for x in words_of(one)})

    def check_common(self, common, words):
        """As few stretches as possible, ascending by first, with exactly these words."""
        self.assertIsInstance(common, tuple)
        self.assertEqual(sorted(word for part in common for word in words_of(part)), words)
        firsts = [part.first for part in common]
        self.assertEqual(firsts, sorted(set(firsts)))
        for one, other in itertools.permutations(common, 2):
            self.assertNotIn((one.last + 1) % 2 ** one.width, other)

    def test_results_are_stretches_of_as_many_words(self):
        for one in all_stretches(3):
            self.assertEqual([part.extent for part in (-one, ~one)], [one.extent, one.extent])
            for other in all_stretches(3):
                expected = min(8, one.extent + other.extent - 1)
                self.assertEqual([(one + other).extent, (one - other).extent], [expected, expected])

    def test_width_64(self):
        whole, half = Stretch(64, 3, 2 ** 64), Stretch(64, 2 ** 63, 2 ** 63)
        for one, other in ((whole, whole), (whole, half), (half, whole), (Stretch(64, 5, 2 ** 64 - 1), Stretch(64, 1, 2))):
            self.assertEqual([told(found) for found in (one + other, one - other)], [(64, 0, 2 ** 64)] * 2)
        self.assertEqual(told(half + half), (64, 0, TOP))
        self.assertEqual(told(half - half), (64, 2 ** 63 + 1, TOP))
        self.assertEqual((told(-half), told(~half)), ((64, 1, 2 ** 63), (64, 0, 2 ** 63)))
        self.assertEqual((told(-Stretch(64, 0, 1)), told(~Stretch(64, 0, 1))), ((64, 0, 1), (64, TOP, 1)))
        self.assertEqual(whole.common_with(half), (half,))
        self.assertEqual(whole.common_with(whole), (whole,))
        self.assertEqual(half.common_with(Stretch(64, 0, 2 ** 63)), ())
        self.assertEqual([told(part) for part in half.common_with(Stretch(64, TOP, 2 ** 63 + 2))],
                         [(64, 2 ** 63, 1), (64, TOP, 1)])
        self.assertEqual([told(part) for part in Stretch(64, TOP, 9).common_with(Stretch(64, TOP - 1, 5))], [(64, TOP, 4)])
        self.assertEqual(told(half.union_with(Stretch(64, 0, 2 ** 63))), (64, 0, 2 ** 64))
        self.assertEqual(told(Stretch(64, 2 ** 63, 1).union_with(Stretch(64, 0, 1))), (64, 0, 2 ** 63 + 1))
        self.assertEqual(told(Stretch(64, TOP, 1).union_with(Stretch(64, 0, 1))), (64, TOP, 2))
        self.assertEqual(told(half.union_with(Stretch(64, TOP, 5))), (64, 2 ** 63, 2 ** 63 + 4))

    def test_unequal_widths(self):
        one, other = Stretch(4, 1, 2), Stretch(5, 1, 2)
        for call in (lambda: one + other, lambda: one - other, lambda: one.common_with(other),
                     lambda: other.union_with(one), lambda: other + one):
            self.assertRaises(UnequalWidths, call)

    def test_they_do_not_change(self):
        one, other = Stretch(4, 14, 5), Stretch(4, 1, 15)
        for _ in range(2):
            results = (one + other, one - other, -one, ~one, one.common_with(other), one.union_with(other))
            self.assertEqual(results, (one + other, one - other, -one, ~one, one.common_with(other),
                                       one.union_with(other)))
            self.assertEqual((told(one), told(other)), ((4, 14, 5), (4, 1, 15)))


class LineTests(unittest.TestCase):
    def check(self, stretch, factor, number):
        width = stretch.width
        words = tuple((factor * x + number) % 2 ** width for x in words_of(stretch))
        found = scaled_stretch(stretch, factor, number)
        self.assertEqual(told(found), told(Stretch.narrowest(width, words)), (str(stretch), factor, number))
        self.assertEqual(str(line_mask(stretch, factor, number)), narrowest_text(width, words))
        return found

    def test_examples(self):
        found = scaled_stretch(Stretch(4, 1, 3), 6, 0)
        self.assertEqual((found.first, found.extent, str(line_mask(Stretch(4, 1, 3), 6, 0))), (2, 11, "???0"))

    def test_all_words_of_small_widths(self):
        for width in (1, 2, 3, 4):
            power = 2 ** width
            for stretch in all_stretches(width):
                for factor in range(-1, power + 1):
                    self.check(stretch, factor, 0)
                    self.check(stretch, factor, power - 3)

    def test_several_narrowest_ones(self):
        rng = some_random(64)
        for _ in range(400):
            width = rng.choice((5, 6, 7))
            power = 2 ** width
            factor = rng.choice((rng.randrange(power), 2 ** rng.randrange(width), power - 2 ** rng.randrange(width),
                                 3 * 2 ** rng.randrange(width)))
            self.check(Stretch(width, rng.randrange(power), rng.randrange(1, power + 1)), factor, rng.randrange(power))

    def test_factors(self):
        rng = some_random(65)
        for _ in range(100):
            width = rng.choice((3, 5, 6))
            stretch = rng.choice(all_stretches(width))
            for factor in (0, 1, -1, 2 ** width, GREAT, -GREAT, 2 ** 500, rng.randrange(GREAT)):
                for number in (0, GREAT, -GREAT):
                    self.check(stretch, factor, number)

    def test_width_64(self):
        rng = some_random(66)
        for stretch in (Stretch(64, 7, 2 ** 64), Stretch(64, 2 ** 63, 2 ** 63 + 5), Stretch(64, TOP, 3), Stretch(64, 5, 1)):
            first, count = stretch.first, stretch.extent
            for number in (0, GREAT, -GREAT):
                start = (first + number) % 2 ** 64
                self.assertEqual(scaled_stretch(stretch, 1, number), Stretch(64, start, count))
                self.assertEqual(scaled_stretch(stretch, -1, number), Stretch(64, (number - stretch.last) % 2 ** 64, count))
                self.assertEqual(scaled_stretch(stretch, 2 ** 64, number), Stretch(64, number % 2 ** 64, 1))
        whole = Stretch(64, 0, 2 ** 64)
        for bit in (1, 5, 63):
            self.assertEqual(told(scaled_stretch(whole, 2 ** bit, 2 ** bit - 1)), (64, 2 ** bit - 1, 2 ** 64 - 2 ** bit + 1))
            self.assertEqual(told(scaled_stretch(whole, 3 * 2 ** bit, -1)), (64, 2 ** bit - 1, 2 ** 64 - 2 ** bit + 1))
        for _ in range(20):
            stretch = Stretch(64, rng.randrange(2 ** 64), rng.randrange(1, 2 ** rng.randrange(1, 65)))
            factor, number = rng.randrange(GREAT), rng.randrange(-GREAT, GREAT)
            found, mask = scaled_stretch(stretch, factor, number), line_mask(stretch, factor, number)
            for _ in range(50):
                word = (factor * stretch[rng.randrange(stretch.extent)] + number) % 2 ** 64
                self.assertTrue(word in found and word in mask)

    def test_few_words_of_width_64(self):
        rng = some_random(67)
        for count in (1, 2, 3, 10, 100):
            for _ in range(10):
                stretch = Stretch(64, rng.choice((TOP, TOP - 2, rng.randrange(2 ** 64))), count)
                for factor in (rng.randrange(2 ** 64), 2 ** 63, 2 ** 62 + 1, 2 ** 58, TOP // 3):
                    words = tuple((factor * x + 5) % 2 ** 64 for x in words_of(stretch))
                    self.assertEqual(scaled_stretch(stretch, factor, 5), Stretch.narrowest(64, words))


if __name__ == "__main__":
    unittest.main()
