"""[31] to [33] Polynomials that permute the words."""

import itertools
import unittest

from tests.helpers import Other, changed_values, odd_values, some_random
from tests.slow_polynomials import (slow_falling, slow_value, some_permutations, some_polynomials, value_table)
from wordsalike.errors import NotPermutation
from wordsalike.masks import Mask
from wordsalike.permuting import (check_permutation, composed_form, cycle_bits, find_permutation, inverse_form,
                                  repeated_form)
from wordsalike.reduced import reduced_form


def small_polynomials(width):
    """All polynomials of up to four numbers from 0 on."""
    for size in range(5):
        yield from itertools.product(range(min(2 ** width, 4)), repeat=size)


def true_results(numbers, width):
    """All results of [31] that are right for a polynomial."""
    table = value_table(numbers, width)
    if len(set(table)) == len(table):
        return [("yes",)]
    pairs = itertools.combinations(range(2 ** width), 2)
    found = [("same", first, second) for first, second in pairs if table[first] == table[second]]
    if table[0] % 2 == table[1] % 2:
        found.extend(("never", word) for word in range(2 ** width) if word % 2 != table[0] % 2)
    return found


def all_results(width):
    words = range(-1, 2 ** width + 1)
    pairs = [("same", first, second) for first, second in itertools.product(words, repeat=2)]
    return [("yes",), *pairs, *[("never", word) for word in words]]


class FindTests(unittest.TestCase):
    def test_examples(self):
        self.assertEqual(find_permutation((0, 1, 2), 64), ("yes",))
        self.assertIs(check_permutation((0, 0, 1), 3, ("same", 0, 4)), True)
        self.assertIs(check_permutation((0, 1, 1), 3, ("never", 1)), True)
        self.assertIs(check_permutation((0, 1, 1), 3, ("yes",)), False)

    def test_small_widths_one_by_one(self):
        for width in (1, 2, 3, 4):
            for numbers in small_polynomials(width):
                found = find_permutation(numbers, width)
                self.assertIn(found, true_results(numbers, width))
                self.assertIs(check_permutation(numbers, width, found), True)

    def test_all_results_are_checked(self):
        for width in (1, 2, 3):
            results = all_results(width)
            for numbers in list(small_polynomials(width))[::3 if width < 3 else 11]:
                right = true_results(numbers, width)
                for value in results:
                    self.assertIs(check_permutation(numbers, width, value), value in right, (numbers, value))

    def test_great_widths(self):
        rng = some_random(31)
        for width in (5, 31, 32, 63, 64):
            for numbers in some_permutations(rng):
                self.assertEqual(find_permutation(numbers, width), ("yes",))
                self.assertIs(check_permutation(numbers, width, ("yes",)), True)
                self.assertIs(check_permutation(numbers, width, ("never", 0)), False)
                self.assertIs(check_permutation(numbers, width, ("same", 0, 2 ** (width - 1))), False)
                for place, more in ((1, 1), (2, 1), (3, 1), (2, 3)):
                    self.check_none([*numbers, 0, 0, 0], place, more, width)
            for numbers in some_polynomials(rng):
                found = find_permutation(numbers, width)
                self.assertIs(check_permutation(numbers, width, found), True)
                self.check_true(numbers, width, found)

    def check_none(self, numbers, place, more, width):
        """With an odd number more at one place, and perhaps another one, it permutes no longer."""
        numbers[place] += more
        found = find_permutation(tuple(numbers), width)
        self.assertNotEqual(found, ("yes",))
        self.check_true(tuple(numbers), width, found)
        self.assertIs(check_permutation(tuple(numbers), width, found), True)
        self.assertIs(check_permutation(tuple(numbers), width, ("yes",)), False)
        numbers[place + 1] += 1
        found = find_permutation(tuple(numbers), width)
        self.check_true(tuple(numbers), width, found)

    def check_true(self, numbers, width, found):
        """What is returned holds, by the words of [31]."""
        if found[0] == "same":
            self.assertTrue(0 <= found[1] < found[2] < 2 ** width)
            self.assertEqual(slow_value(numbers, found[1], width), slow_value(numbers, found[2], width))
        elif found[0] == "never":
            lowest = {slow_value(numbers, word, 1) for word in (0, 1)}
            self.assertEqual(len(lowest), 1)
            self.assertTrue(0 <= found[1] < 2 ** width and found[1] % 2 not in lowest)
        else:
            self.assertEqual(found, ("yes",))
            for word in (0, 1, 2, 3):
                half = 2 ** (width - 1)
                values = [slow_value(numbers, word, width), slow_value(numbers, word ^ half, width)]
                self.assertEqual(abs(values[0] - values[1]), half)

    def test_values_of_all_kinds(self):
        told = [((0, 1, 2), 64, ("yes",)), ((0, 0, 1), 3, ("same", 0, 4)), ((0, 1, 1), 3, ("never", 1)),
                ((0, 0, 1), 64, ("same", 0, 2 ** 63))]
        kinds = [*odd_values(), Other(), Mask(4, 0, 0), (Mask(4, 0, 0),), ["yes"], "yes", ("no",), ("same",),
                 ("never",), ("same", 0), ("same", 0, True), ("same", False, 4), ("never", True), ("yes", "yes"),
                 ("yes", 0), ("never", 0, 4), ("same", "0", "4"), ("same", None, None), ("never", "1"), ({}, 0, 4)]
        for numbers, width, right in told:
            self.assertIs(check_permutation(numbers, width, right), True)
            for value in kinds:
                self.assertIs(check_permutation(numbers, width, value), False, value)
        self.assertIs(check_permutation((0, 0, 1), 3, ("same", 4, 0)), False)
        self.assertIs(check_permutation((0, 0, 1), 3, ("same", 4, 4)), False)
        self.assertIs(check_permutation((0, 0, 1), 3, ("same", 0, 8)), False)
        self.assertIs(check_permutation((0, 0, 1), 3, ("same", -4, 0)), False)
        self.assertIs(check_permutation((0, 1, 1), 3, ("never", 9)), False)
        self.assertIs(check_permutation((0, 1, 1), 3, ("never", -1)), False)
        for value in changed_values(("yes",)):
            self.assertIs(check_permutation((0, 1, 2), 64, value), False)


class FormTests(unittest.TestCase):
    def test_examples(self):
        self.assertEqual(composed_form((1, 1), (0, 0, 1), 3), (1, 1, 1, 0))
        self.assertEqual((repeated_form((1, 3), 2, 3), repeated_form((1, 3), 4, 3)), ((4, 1, 0, 0), (0, 1, 0, 0)))
        self.assertEqual(inverse_form((0, 1, 2), 3), (0, 7, 2, 0))

    def assert_form(self, form, values, width):
        """The reduced form has these values at the words, as its numbers and no others do."""
        self.assertEqual(form, reduced_form(numbers_of(form), width))
        for word, value in values.items():
            self.assertEqual(slow_falling(form, word, width), value)

    def test_composed_at_small_widths(self):
        rng = some_random(32)
        for width in (1, 2, 3, 4):
            polynomials = list(small_polynomials(width))
            for _ in range(150):
                one, other = rng.choice(polynomials), rng.choice(polynomials)
                first, second = value_table(one, width), value_table(other, width)
                values = {word: first[second[word]] for word in range(2 ** width)}
                self.assert_form(composed_form(one, other, width), values, width)

    def test_composed_at_great_widths(self):
        rng = some_random(33)
        for width in (31, 64):
            some = some_polynomials(rng)
            for one, other in [*zip(some, reversed(some)), (some[4], some[4])]:
                values = {}
                for word in (0, 1, 2, 2 ** width - 1, rng.randrange(2 ** width)):
                    values[word] = slow_value(one, slow_value(other, word, width), width)
                self.assert_form(composed_form(one, other, width), values, width)

    def test_repeated_at_small_widths(self):
        rng = some_random(34)
        for width in (1, 2, 3, 4):
            for numbers in rng.sample(list(small_polynomials(width)), 25):
                table = value_table(numbers, width)
                words = list(range(2 ** width))
                for times in range(20):
                    self.assert_form(repeated_form(numbers, times, width), dict(enumerate(words)), width)
                    words = [table[word] for word in words]

    def test_repeated_at_great_widths(self):
        rng = some_random(35)
        for width in (31, 64):
            for numbers in some_polynomials(rng)[::3]:
                self.assertEqual(repeated_form(numbers, 0, width), reduced_form((0, 1), width))
                self.assertEqual(repeated_form(numbers, 1, width), reduced_form(numbers, width))
                self.assertEqual(repeated_form(numbers, 2, width), composed_form(numbers, numbers, width))
                values = {}
                for word in (0, 1, 5, 2 ** width - 1):
                    value = word
                    for _ in range(11):
                        value = slow_value(numbers, value, width)
                    values[word] = value
                self.assert_form(repeated_form(numbers, 11, width), values, width)

    def test_repeated_very_often(self):
        for times in (2 ** 64, 2 ** 64 - 1, 10 ** 19):
            # x + 1 and 3 * x, so often, are known.
            self.assertEqual(repeated_form((1, 1), times, 64), reduced_form((times, 1), 64))
            self.assertEqual(repeated_form((0, 3), times, 64), reduced_form((0, pow(3, times, 2 ** 64)), 64))
            self.assertEqual(repeated_form((7,), times, 64), reduced_form((7,), 64))
        for numbers in some_permutations(some_random(36))[2::5]:
            # Each cycle has a length that divides 2 ** 64.
            self.assertEqual(repeated_form(numbers, 2 ** 64, 64), reduced_form((0, 1), 64))
            inverse = inverse_form(numbers, 64)
            self.assertEqual(repeated_form(numbers, 2 ** 64 - 1, 64), inverse)

    def test_inverse_at_small_widths(self):
        for width in (1, 2, 3, 4):
            for numbers in list(small_polynomials(width))[::1 if width < 3 else 2]:
                table = value_table(numbers, width)
                if len(set(table)) < len(table):
                    self.check_error(inverse_form, numbers, width)
                    continue
                values = {value: word for word, value in enumerate(table)}
                self.assert_form(inverse_form(numbers, width), values, width)

    def check_error(self, function, numbers, width, *words):
        with self.assertRaises(NotPermutation) as caught:
            function(numbers, *words, width)
        self.assertIs(check_permutation(numbers, width, caught.exception.value), True)
        self.assertNotEqual(caught.exception.value, ("yes",))

    def test_inverse_at_great_widths(self):
        rng = some_random(37)
        for width in (5, 31, 63, 64):
            for numbers in some_permutations(rng):
                values = {slow_value(numbers, word, width): word for word in (0, 1, 2, 3, 70, 2 ** width - 1,
                                                                            rng.randrange(2 ** width)) if
                          word < 2 ** width}
                self.assert_form(inverse_form(numbers, width), values, width)
            for numbers in ((), (5,), (0, 2), (0, 0, 1), (0, 1, 1), (0, 1, 0, 1), (0, 1, 2, 1)):
                self.check_error(inverse_form, numbers, width)
                self.check_error(cycle_bits, numbers, width, 1)


def numbers_of(form):
    """The numbers, with powers, of a reduced form."""
    total = [0] * len(form)
    power = [1]
    for place, number in enumerate(form):
        for at, part in enumerate(power):
            total[at] += number * part
        longer = [0, *power]
        for at, part in enumerate(power):
            longer[at] -= place * part
        power = longer
    return tuple(total)


class CycleTests(unittest.TestCase):
    def test_examples(self):
        self.assertEqual(cycle_bits((1, 3), 0, 3), 2)
        self.assertEqual([cycle_bits((0, -1), x, 3) for x in (0, 1, 4)], [0, 1, 0])
        self.assertEqual(cycle_bits((1, 1), 7, 64), 64)

    def test_small_widths_one_by_one(self):
        for width in (1, 2, 3, 4, 5):
            for numbers in list(small_polynomials(width))[::1 if width < 3 else 3]:
                table = value_table(numbers, width)
                for word in range(2 ** width):
                    if len(set(table)) < len(table):
                        with self.assertRaises(NotPermutation) as caught:
                            cycle_bits(numbers, word, width)
                        self.assertEqual(caught.exception.value, find_permutation(numbers, width))
                        continue
                    steps, now = 1, table[word]
                    while now != word:
                        steps, now = steps + 1, table[now]
                    self.assertEqual(2 ** cycle_bits(numbers, word, width), steps)

    def test_width_64(self):
        for k in (0, 1, 2, 40, 62, 63, 64):
            self.assertEqual(cycle_bits((2 ** k, 1), 5, 64), 64 - k)
            self.assertEqual(cycle_bits((0, 5), 2 ** k % 2 ** 64, 64), max(62 - k, 0))
        self.assertEqual(cycle_bits((0, 1), 2 ** 64 - 1, 64), 0)
        for numbers in some_permutations(some_random(38))[3::4]:
            for word in (0, 2 ** 64 - 1):
                bits = cycle_bits(numbers, word, 64)
                self.assertEqual(slow_falling(repeated_form(numbers, 2 ** bits, 64), word, 64), word)
                if bits > 0:
                    half = repeated_form(numbers, 2 ** (bits - 1), 64)
                    self.assertNotEqual(slow_falling(half, word, 64), word)


if __name__ == "__main__":
    unittest.main()
