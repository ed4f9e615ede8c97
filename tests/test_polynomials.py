"""[36], [37] The class Polynomial."""

import itertools
import unittest

from tests.helpers import Other, odd_values, some_random
from tests.slow_polynomials import slow_value, some_permutations, some_polynomials, value_table
from wordsalike.errors import (BadPolynomial, BadWidth, BadWord, NoSuchIndex, NotPermutation, UnequalWidths)
from wordsalike.forms import Divisor
from wordsalike.masks import Mask
from wordsalike.permuting import check_permutation, composed_form, inverse_form, repeated_form
from wordsalike.polynomials import Polynomial
from wordsalike.reduced import least_degree, place_limit, reduced_form

MOST = 10 ** 30 - 1


def small_polynomials(width):
    bound = min(2 ** width, 3)
    return [numbers for size in range(4) for numbers in itertools.product(range(bound), repeat=size)]


def values_of(one):
    """The values of a Polynomial at all words."""
    return [one(word) for word in range(2 ** one.width)]


class ConstructorTests(unittest.TestCase):
    def test_examples(self):
        one = Polynomial((0, 1, 2), 3)
        self.assertEqual((one.rows, one.degree, one.inverse().rows), ((0, 3, 2, 0), 2, (0, 7, 2, 0)))
        with self.assertRaises(BadPolynomial) as caught:
            Polynomial((0, True), 3)
        self.assertEqual(repr(caught.exception.value), "(0, True)")

    def check_error(self, kind, field, *arguments):
        with self.assertRaises(kind) as caught:
            Polynomial(*arguments)
        self.assertIs(caught.exception.value, field)

    def test_values_of_all_kinds(self):
        for value in [*odd_values(), Other(), 0, 65, Mask(4, 0, 0), Polynomial((), 3), Divisor(7, 8), [0, 1], "01"]:
            if repr(value) not in ("()", "(0, 1)"):
                self.check_error(BadPolynomial, value, value, 8)
                self.check_error(BadPolynomial, value, value, value)
                self.check_error(BadPolynomial, value, value, 65)
            self.check_error(BadWidth, value, (), value)
            self.check_error(BadWidth, value, (0, 1), value)
        for value in ((0,) * 81, (MOST + 1,), (-MOST - 1,), (0, None)):
            self.check_error(BadPolynomial, value, value, 0)

    def test_properties(self):
        rng = some_random(36)
        for width in range(1, 65):
            for numbers in some_polynomials(rng)[:: 1 if width in (1, 2, 64) else 7]:
                one = Polynomial(numbers, width)
                form = reduced_form(numbers, width)
                self.assertEqual((one.width, one.rows, one.degree), (width, form, least_degree(numbers, width)))

    def test_they_do_not_change(self):
        one = Polynomial((0, 1, 2), 3)
        for name in ("width", "rows", "degree"):
            with self.assertRaises(AttributeError):
                setattr(one, name, 5)
        before = (one.width, one.rows, one.degree, str(one))
        other = Polynomial((1, 3, 4), 3)
        results = [one + other, one - other, one * other, -one, one >> other, one ** 5, one.inverse(), other >> one]
        self.assertEqual((one.width, one.rows, one.degree, str(one)), before)
        self.assertEqual((other, len(results)), (Polynomial((1, 3, 4), 3), 8))


class InverseTests(unittest.TestCase):
    def test_small_widths(self):
        for width in (1, 2, 3):
            for numbers in small_polynomials(width):
                table = value_table(numbers, width)
                one = Polynomial(numbers, width)
                if len(set(table)) < len(table):
                    self.check_error(one, numbers)
                else:
                    self.assertIsInstance(one.inverse(), Polynomial)
                    self.assertEqual([one.inverse()(value) for value in table], list(range(2 ** width)))

    def check_error(self, one, numbers):
        with self.assertRaises(NotPermutation) as caught:
            one.inverse()
        self.assertNotEqual(caught.exception.value, ("yes",))
        self.assertIs(check_permutation(numbers, one.width, caught.exception.value), True)

    def test_width_64(self):
        name = Polynomial((0, 1), 64)
        for numbers in some_permutations(some_random(37))[::2]:
            one = Polynomial(numbers, 64)
            self.assertEqual(one.inverse().rows, inverse_form(numbers, 64))
            self.assertEqual(((one >> one.inverse()), one.inverse() >> one, one.inverse().width), (name, name, 64))
        for numbers in ((), (0, 2), (0, 1, 1), (0, 1, 0, 1)):
            self.check_error(Polynomial(numbers, 64), numbers)


class OperatorTests(unittest.TestCase):
    def test_examples(self):
        one = Polynomial((0, 1, 2), 3)
        self.assertEqual(((one >> one).rows, one ** 2 == one >> one, (-one).rows), ((0, 5, 0, 0), True, (0, 5, 2, 0)))
        self.assertEqual((one(3), one[1], 5 in one, 1 in one * one, len(one)), (5, 3, True, True, 2))
        self.assertEqual(str(one), "3 bits: 0 3 2 0")

    def test_all_words_of_small_widths(self):
        rng = some_random(38)
        for width in (1, 2, 3, 4):
            power = 2 ** width
            for _ in range(60):
                numbers = [rng.choice(small_polynomials(width)) for _ in range(2)]
                one, other = [Polynomial(part, width) for part in numbers]
                first, second = [value_table(part, width) for part in numbers]
                self.assertEqual(values_of(one), list(first))
                self.assertEqual(values_of(one + other), [(x + y) % power for x, y in zip(first, second)])
                self.assertEqual(values_of(one - other), [(x - y) % power for x, y in zip(first, second)])
                self.assertEqual(values_of(one * other), [x * y % power for x, y in zip(first, second)])
                self.assertEqual(values_of(-one), [-x % power for x in first])
                self.assertEqual(values_of(one >> other), [second[x] for x in first])
                words = list(range(power))
                for times in range(6):
                    self.assertEqual(values_of(one ** times), words)
                    words = [first[word] for word in words]
                for word in range(power):
                    self.assertIs(word in one, word in first)

    def test_great_widths(self):
        rng = some_random(39)
        for width in (31, 63, 64):
            power = 2 ** width
            some = some_polynomials(rng)
            for first, second in list(zip(some, reversed(some)))[::3]:
                one, other = Polynomial(first, width), Polynomial(second, width)
                for word in (0, 1, 2, 67, power - 1, rng.randrange(power)):
                    x, y = slow_value(first, word, width), slow_value(second, word, width)
                    self.assertEqual((one(word), (one + other)(word)), (x, (x + y) % power))
                    self.assertEqual(((one - other)(word), (one * other)(word)), ((x - y) % power, x * y % power))
                    self.assertEqual(((-one)(word), (one >> other)(word)), (-x % power, slow_value(second, x, width)))
                self.assertEqual((one >> other).rows, composed_form(second, first, width))
                self.assertTrue(all(result.width == width for result in (one + other, one - other, one * other, -one,
                                                                         one >> other, one ** 2)))

    def test_powers(self):
        for numbers in ((0, 1, 2), (3, 5, 2, 4), (0, 2), ()):
            for times in (0, 1, 2, 3, 2 ** 64):
                one = Polynomial(numbers, 64)
                self.assertEqual((one ** times).rows, repeated_form(numbers, times, 64))
            self.assertEqual((one ** 0, one ** 1), (Polynomial((0, 1), 64), one))

    def test_unequal_widths(self):
        one, other = Polynomial((0, 1), 8), Polynomial((0, 1), 9)
        for first, second in ((one, other), (other, one)):
            with self.assertRaises(UnequalWidths):
                first + second
            with self.assertRaises(UnequalWidths):
                first - second
            with self.assertRaises(UnequalWidths):
                first * second
            with self.assertRaises(UnequalWidths):
                first >> second


class QueryTests(unittest.TestCase):
    def test_words_of_all_kinds(self):
        one = Polynomial((0, 1, 2), 3)
        for value in [*odd_values(), Other(), -1, 8, 9, one, Mask(3, 0, 0), 3.0]:
            with self.assertRaises(BadWord) as caught:
                one(value)
            self.assertIs(caught.exception.value, value)
            self.assertIs(value in one, False)
        self.assertEqual([one(word) for word in range(8)], list(value_table((0, 1, 2), 3)))
        wide = Polynomial((0, 1), 64)
        self.assertEqual((wide(2 ** 64 - 1), 2 ** 64 - 1 in wide, 2 ** 64 in wide), (2 ** 64 - 1, True, False))

    def test_places_of_all_kinds(self):
        one = Polynomial((0, 1, 2), 3)
        for value in [*odd_values(), Other(), -1, 4, 5, one, Mask(3, 0, 0), slice(0, 2), 1.0]:
            with self.assertRaises(NoSuchIndex) as caught:
                one[value]
            self.assertIs(caught.exception.index, value)
        for width in (1, 2, 3, 8, 64):
            one = Polynomial((1, 2, 3, 4, 5), width)
            self.assertEqual(tuple(one[place] for place in range(place_limit(width))), one.rows)
            with self.assertRaises(NoSuchIndex):
                one[place_limit(width)]

    def test_values_at_the_width_64(self):
        rng = some_random(40)
        for numbers in some_polynomials(rng):
            one = Polynomial(numbers, 64)
            for word in (0, 1, 5, 2 ** 64 - 1, rng.randrange(2 ** 64)):
                self.assertIs(slow_value(numbers, word, 64) in one, True)
        squares = Polynomial((0, 0, 1), 64)
        self.assertEqual([word in squares for word in range(18)],
                         [word in (0, 1, 4, 9, 16, 17) for word in range(18)])
        self.assertEqual([word in squares for word in (2 ** 62, 2 ** 63, 2 ** 63 + 1, 2 ** 64 - 7, 2 ** 64 - 1)],
                         [True, False, True, True, False])
        self.assertEqual([word in Polynomial((5,), 64) for word in (4, 5, 6)], [False, True, False])
        self.assertEqual([word in Polynomial((), 64) for word in (0, 1)], [True, False])

    def test_numbers_other_than_0(self):
        for width in (1, 2, 3, 64):
            for numbers in [*small_polynomials(width), (2 ** width,), (0, 2 ** (width - 1)), (5,) * 20]:
                one = Polynomial(numbers, width)
                many = len([number for number in reduced_form(numbers, width) if number])
                self.assertEqual((len(one), bool(one)), (many, many > 0))
        nothing = Polynomial((0, 4, 4), 3)
        self.assertEqual((len(nothing), bool(nothing), nothing.degree, str(nothing)), (0, False, -1, "3 bits: 0 0 0 0"))
        self.assertEqual((nothing, [word for word in range(8) if word in nothing]), (Polynomial((), 3), [0]))

    def test_equal(self):
        for width in (1, 2, 3):
            told = small_polynomials(width)
            tables = [value_table(numbers, width) for numbers in told]
            made = [Polynomial(numbers, width) for numbers in told]
            for one, other in itertools.product(range(len(told)), repeat=2):
                self.assertIs(made[one] == made[other], tables[one] == tables[other])
                self.assertIs(made[one] != made[other], tables[one] != tables[other])
        self.assertIs(Polynomial((0, 1), 2) == Polynomial((0, 1), 3), False)
        self.assertIs(Polynomial((), 2) == Polynomial((), 3), False)
        one = Polynomial((0, 1, 2), 3)
        for value in [*odd_values(), Other(), one.rows, (0, 1, 2), str(one), Mask(3, 0, 0), Divisor(7, 8)]:
            self.assertIs(one == value, False)
            self.assertIs(value == one, False)

    def test_str(self):
        self.assertEqual([str(Polynomial((1, 1), width)) for width in (1, 2, 3)],
                         ["1 bits: 1 1", "2 bits: 1 1 0 0", "3 bits: 1 1 0 0"])
        wide = str(Polynomial((-1, 2 ** 63), 64))
        self.assertEqual(wide, "64 bits: 18446744073709551615 9223372036854775808" + " 0" * 64)


if __name__ == "__main__":
    unittest.main()
