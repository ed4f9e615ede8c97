"""[34], [35] The words at which a polynomial has the value 0."""

import itertools
import unittest

from tests.helpers import Other, changed_values, odd_values, some_random
from tests.slow_polynomials import product_of, slow_value, some_polynomials, value_table
from wordsalike.lifting import check_zeros, count_zeros, each_zero, zero_classes, zero_paper
from wordsalike.masks import Mask


def first_ones(zeros, many):
    return [zero for zero, _ in zip(zeros, range(many))]


def slow_classes(numbers, width):
    """The greatest classes of zeros, by the words of [34]."""
    table = value_table(numbers, width)
    found = []
    for bits in range(width + 1):
        for rest in range(2 ** bits):
            inside = any(rest % 2 ** fewer == other for other, fewer in found)
            if not inside and not any(table[rest::2 ** bits]):
                found.append((rest, bits))
    return tuple(sorted(found))


def numbers_in_t(numbers, rest, bits):
    """The numbers of the polynomial in t that comes from x = rest + 2 ** bits * t, without a modulus."""
    total = []
    for number in reversed(numbers):
        longer = [0, *total]
        longer = [2 ** bits * part for part in longer]
        for at, part in enumerate(total):
            longer[at] += rest * part
        longer[0] += number
        total = longer
    return total


def is_barren(numbers, width, rest, bits):
    """[35] by its words."""
    own = numbers_in_t(numbers, rest, bits)
    values = (own[0] if own else 0, sum(own))
    for c in range(width):
        if all(number % 2 ** c == 0 for number in own) and all(value % 2 ** (c + 1) for value in values):
            return True
    return False


def is_paper(numbers, width, value):
    """[35] by its words, for a tuple of classes with their words."""
    for rest, bits, word in value:
        words = range(rest, 2 ** width, 2 ** bits)
        if word == "all" and any(slow_value(numbers, x, width) for x in words):
            return False
        if word == "none" and not is_barren(numbers, width, rest, bits):
            return False
    told = sorted(x for rest, bits, _ in value for x in range(rest, 2 ** width, 2 ** bits))
    return told == list(range(2 ** width)) and list(value) == sorted(set(value))


def partitions(width, rest=0, bits=0):
    """All ways to share the words of a class out to classes."""
    yield [(rest, bits)]
    if bits < width:
        for low in partitions(width, rest, bits + 1):
            for high in partitions(width, rest + 2 ** bits, bits + 1):
                yield [*low, *high]


def small_polynomials():
    rng = some_random(34)
    found = [(), (0,), (1,), (2,), (4,), (-1, 0, 1), (0, 0, 1), (0, 1, 1), (3,), (2, 2), (0, 2), (0, 4, 4), (1, 1, 1),
             (0, 0, 0, 0, 1), (6, 1, 3), (0, 2, 3, 1), (0, 6, 11, 6, 1), (8,), (-4, 0, 1), (16, 0, 0, 1)]
    for size in (2, 3, 4, 5, 6):
        found.extend(tuple(rng.randrange(-8, 9) for _ in range(size)) for _ in range(8))
    return found


def great_polynomials():
    """Polynomials with some zeros at the width 64."""
    rng = some_random(35)
    found = [(-1, 0, 1), (0, 0, 1), (0, 0, 0, 1), (0, 1), (0, 2 ** 63), (0, 2 ** 32), (-4, 0, 1), (-17, 0, 1),
             (0,) * 79 + (1,), (0,) * 16 + (1, 1), product_of(range(8)), product_of((1, 3, 5, 2 ** 40 + 1, 2 ** 63)),
             product_of(range(40)), (2 ** 63,), (0, 3 * 2 ** 62), (0, 2 ** 60, 0, 2 ** 60)]
    for size in (2, 3, 5, 9):
        roots = [rng.randrange(2 ** 64) for _ in range(size)]
        found.append(tuple(number % 2 ** 64 for number in product_of(roots)))
    return found


class ClassTests(unittest.TestCase):
    def test_examples(self):
        self.assertEqual(zero_classes((-1, 0, 1), 4), ((1, 3), (7, 3)))
        self.assertEqual((count_zeros((-1, 0, 1), 4), list(each_zero((-1, 0, 1), 4, start=2))), (4, [7, 9, 15]))
        self.assertEqual(zero_classes((0, 0, 1), 64), ((0, 32),))

    def test_small_widths_one_by_one(self):
        for width in range(1, 7):
            for numbers in small_polynomials():
                self.assertEqual(zero_classes(numbers, width), slow_classes(numbers, width))
                zeros = [word for word, value in enumerate(value_table(numbers, width)) if value == 0]
                self.assertEqual(count_zeros(numbers, width), len(zeros))
                for start in (0, 1, 2, 2 ** width - 1, 2 ** width, 2 ** width + 1, 10 ** 30 - 1):
                    found = list(each_zero(numbers, width, start=start))
                    self.assertEqual(found, [word for word in zeros if word >= start])
                self.assertEqual(list(each_zero(numbers, width)), zeros)

    def test_all_polynomials_of_small_numbers(self):
        for width in (1, 2, 3):
            for numbers in itertools.product(range(min(2 ** width, 5)), repeat=4):
                self.assertEqual(zero_classes(numbers, width), slow_classes(numbers, width))

    def test_known_zeros_of_the_width_64(self):
        top = 2 ** 64
        self.assertEqual(zero_classes((), 64), ((0, 0),))
        self.assertEqual((count_zeros((), 64), count_zeros((top,), 64), count_zeros((1,), 64)), (top, top, 0))
        self.assertEqual((zero_classes((2 ** 63,), 64), count_zeros((2 ** 63, 2), 64)), ((), 2))
        self.assertEqual(zero_classes((-1, 0, 1), 64), ((1, 63), (2 ** 63 - 1, 63)))
        self.assertEqual(zero_classes((0, 1), 64), ((0, 64),))
        self.assertEqual(zero_classes((0, 2 ** 63), 64), ((0, 1),))
        self.assertEqual((zero_classes((0,) * 79 + (1,), 64), count_zeros((0, 0, 1), 64)), (((0, 1),), 2 ** 32))
        self.assertEqual(count_zeros((0, 0, 0, 1), 64), 2 ** 42)
        self.assertEqual(zero_classes(product_of(range(66)), 64), ((0, 0),))
        self.assertEqual(zero_classes((-17, 0, 1), 64)[0][1], 63)
        self.assertEqual(count_zeros((-3, 0, 1), 64), 0)
        self.assertEqual(list(each_zero((-3, 0, 1), 64)), [])

    def test_zeros_of_the_width_64(self):
        rng = some_random(36)
        for numbers in great_polynomials():
            classes = zero_classes(numbers, 64)
            self.assertEqual(list(classes), sorted(set(classes)))
            self.assertEqual(count_zeros(numbers, 64), sum(2 ** (64 - bits) for _, bits in classes))
            for start in (0, 1, 2 ** 40 + 1, 2 ** 63, 2 ** 64 - 2 ** 20, 2 ** 64 - 1, rng.randrange(2 ** 64)):
                zeros = first_ones(each_zero(numbers, 64, start=start), 20)
                self.assertEqual(zeros, sorted(set(zeros)))
                for zero in zeros:
                    self.assertTrue(start <= zero < 2 ** 64)
                    self.assertEqual(slow_value(numbers, zero, 64), 0)
                    self.assertEqual(sum(zero % 2 ** bits == rest for rest, bits in classes), 1)
                end = zeros[-1] if len(zeros) == 20 else 2 ** 64 - 1
                for word in range(start, min(end, start + 40) + 1):
                    self.assertIs(word in zeros, slow_value(numbers, word, 64) == 0)

    def test_roots_are_found(self):
        rng = some_random(37)
        for width in (31, 63, 64):
            for _ in range(20):
                roots = [rng.choice((rng.randrange(2 ** width), rng.randrange(8))) for _ in range(rng.randrange(1, 9))]
                numbers = product_of(roots)
                numbers = tuple(number % 2 ** width for number in numbers)
                classes = zero_classes(numbers, width)
                for root in roots:
                    self.assertEqual(sum(root % 2 ** bits == rest for rest, bits in classes), 1)

    def test_greatest_classes(self):
        # The class with one bit less, of the same rest, has a word that is no zero.
        for numbers in great_polynomials():
            for rest, bits in zero_classes(numbers, 64):
                if bits > 0:
                    other = range(rest % 2 ** (bits - 1), 2 ** 64, 2 ** (bits - 1))
                    self.assertTrue(any(slow_value(numbers, word, 64) for word in other[:70]))

    def test_a_start_beyond_the_words(self):
        for start in (2 ** 64, 2 ** 64 + 1, 10 ** 30 - 1):
            self.assertEqual(list(each_zero((), 64, start=start)), [])
        self.assertEqual(list(each_zero((), 64, start=2 ** 64 - 2)), [2 ** 64 - 2, 2 ** 64 - 1])

    def test_the_generator_can_be_left(self):
        for _ in range(3):
            zeros = each_zero((0, 0, 1), 64, start=1)
            self.assertEqual((next(zeros), next(zeros)), (2 ** 32, 2 ** 33))
            zeros.close()
        self.assertEqual(first_ones(each_zero((), 64), 5), [0, 1, 2, 3, 4])


class PaperTests(unittest.TestCase):
    def test_examples(self):
        paper = ((0, 1, "none"), (1, 3, "all"), (3, 3, "none"), (5, 3, "none"), (7, 3, "all"))
        self.assertIs(check_zeros((-1, 0, 1), 4, paper), True)
        self.assertIs(check_zeros((-1, 0, 1), 4, ((0, 1, "none"), (1, 1, "all"))), False)
        self.assertIs(check_zeros((3,), 4, ((0, 0, "none"),)), True)

    def test_papers_of_small_widths(self):
        for width in range(1, 7):
            for numbers in small_polynomials():
                paper = zero_paper(numbers, width)
                self.assertIsInstance(paper, tuple)
                self.assertTrue(is_paper(numbers, width, paper))
                self.assertIs(check_zeros(numbers, width, paper), True)

    def test_all_papers_of_small_widths(self):
        for width in (1, 2, 3):
            shared = list(partitions(width))
            for numbers in small_polynomials()[:: 1 if width < 3 else 4]:
                for classes in shared:
                    if len(classes) < 6:
                        self.check_labels(numbers, width, classes)

    def check_labels(self, numbers, width, classes):
        for words in itertools.product(("all", "none"), repeat=len(classes)):
            value = tuple(sorted((rest, bits, word) for (rest, bits), word in zip(classes, words)))
            self.assertIs(check_zeros(numbers, width, value), is_paper(numbers, width, value))

    def test_papers_of_the_width_64(self):
        for numbers in [*great_polynomials(), *some_polynomials(some_random(38))]:
            paper = zero_paper(numbers, 64)
            self.assertEqual(list(paper), sorted(set(paper)))
            self.assertEqual(sum(2 ** (64 - bits) for _, bits, _ in paper), 2 ** 64)
            self.assertIs(check_zeros(numbers, 64, paper), True)
            for rest, bits, word in paper[:40]:
                if word == "none":
                    self.assertTrue(is_barren(numbers, 64, rest, bits))
                else:
                    for t in range(70):
                        self.assertEqual(slow_value(numbers, rest + 2 ** bits * t, 64), 0)

    def test_changed_papers(self):
        for numbers, width in (((-1, 0, 1), 4), ((0, 0, 1), 64), ((-17, 0, 1), 64), ((0, 2, 3, 1), 5)):
            paper = zero_paper(numbers, width)
            self.assertGreater(len(paper), 2)
            for at, (rest, bits, word) in enumerate(paper):
                other = "none" if word == "all" else "all"
                left = (*paper[:at], *paper[at + 1:])
                self.assertIs(check_zeros(numbers, width, left), False)
                for more in ((rest, bits, other), (rest + 1, bits, word), (rest, bits + 1, word)):
                    self.assertIs(check_zeros(numbers, width, tuple(sorted([*left, more]))), False)
                    self.assertIs(check_zeros(numbers, width, tuple(sorted([*paper, more]))), False)
                self.assertIs(check_zeros(numbers, width, (*left, paper[at])), at == len(paper) - 1)
                self.assertIs(check_zeros(numbers, width, (*paper, paper[at])), False)
                self.assertIs(check_zeros(numbers, width, tuple(sorted([*paper, paper[at]]))), False)
                if bits < width:
                    halves = [(rest, bits + 1, word), (rest + 2 ** bits, bits + 1, word)]
                    split = tuple(sorted([*left, *halves]))
                    expected = word == "all" or all(is_barren(numbers, width, *half[:2]) for half in halves)
                    self.assertIs(check_zeros(numbers, width, split), expected)
                    self.assertIs(check_zeros(numbers, width, tuple(sorted([*left, halves[0]]))), False)

    def test_classes_within_one_another(self):
        # The numbers of words add up, but some words are in two classes and others in none.
        self.assertIs(check_zeros((), 2, ((0, 1, "all"), (0, 2, "all"), (2, 2, "all"))), False)
        self.assertIs(check_zeros((), 2, ((0, 1, "all"), (0, 1, "all"))), False)
        self.assertIs(check_zeros((), 1, ((0, 1, "all"), (0, 1, "none"))), False)
        self.assertIs(check_zeros((), 2, ((0, 1, "all"), (1, 1, "all"))), True)
        self.assertIs(check_zeros((), 2, ((1, 1, "all"), (0, 1, "all"))), False)
        self.assertIs(check_zeros((), 2, ((0, 0, "all"), (1, 1, "all"))), False)

    def test_bounds_of_classes(self):
        self.assertIs(check_zeros((), 2, ((0, 0, "all"),)), True)
        for value in (((1, 0, "all"),), ((0, 3, "all"),), ((-1, 0, "all"),), ((0, -1, "all"),), ((0, 0, "some"),), (),
                      ((0, 0),), ((0, 0, "all", 0),), ((False, False, "all"),), ((0, 0, None),), ((0, 0, ["all"]),),
                      [(0, 0, "all")], ([0, 0, "all"],), ((0, 65, "all"),), (((0, 0, "all"),),)):
            self.assertIs(check_zeros((), 2, value), False, value)
        deep = tuple(sorted((rest, 2, "all") for rest in range(4)))
        self.assertIs(check_zeros((), 2, deep), True)
        self.assertIs(check_zeros((), 1, deep), False)
        self.assertIs(check_zeros((), 64, deep), True)

    def test_barren_needs_all_numbers(self):
        # The values at 0 and 1 are odd, but another value is even; and a common factor of values alone.
        self.assertIs(check_zeros((1, 1, 1), 3, ((0, 0, "none"),)), True)
        self.assertIs(check_zeros((2, 1, 1), 3, ((0, 0, "none"),)), False)
        self.assertIs(check_zeros((6, 2, 2), 3, ((0, 0, "none"),)), True)
        self.assertIs(check_zeros((8,), 3, ((0, 0, "none"),)), False)
        self.assertIs(check_zeros((4,), 3, ((0, 0, "none"),)), True)

    def test_values_of_all_kinds(self):
        paper = zero_paper((-1, 0, 1), 4)
        for value in [*odd_values(), Other(), Mask(4, 0, 0), (Mask(4, 0, 0),), ((0, 0, Mask(4, 0, 0)),), "all"]:
            self.assertIs(check_zeros((-1, 0, 1), 4, value), False)
        for value in changed_values(paper):
            self.assertIs(check_zeros((-1, 0, 1), 4, value), False, value)

    def test_great_papers(self):
        all_words = tuple(sorted((rest, 11, "all") for rest in range(2 ** 11)))
        self.assertIs(check_zeros((2 ** 64, 0, 2 ** 64), 64, all_words), True)
        self.assertIs(check_zeros((2 ** 64, 0, 2 ** 42), 64, all_words), False)
        no_words = tuple((rest, bits, "none") for rest, bits, _ in all_words)
        self.assertIs(check_zeros((2 ** 63,) + (0,) * 78 + (2 ** 64,), 64, no_words), True)
        self.assertIs(check_zeros((1,) * 79 + (1,), 64, no_words), False)


if __name__ == "__main__":
    unittest.main()
