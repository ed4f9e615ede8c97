"""[24] to [30] Polynomials that wrap round and their reduced forms."""

import itertools
import math
import unittest

from tests.helpers import Other, changed_values, odd_values, some_random
from tests.slow_polynomials import (all_reduced_forms, falling_product, falling_table, product_of, slow_bits,
                                    slow_falling, slow_place_bits, slow_value, some_polynomials, value_table)
from wordsalike.masks import Mask
from wordsalike.reduced import (check_through, falling_numbers, falling_value, form_degree, is_polynomial,
                                is_zero_everywhere, least_degree, place_bits, place_limit, polynomial_difference,
                                polynomial_through, polynomial_value, polynomials_alike, power_numbers, reduced_form,
                                reduced_powers)

MOST = 10 ** 30 - 1


def some_words(width, rng):
    top = 2 ** width - 1
    return sorted({0, 1, top, top // 2, top // 3, *[rng.randrange(top + 1) for _ in range(4)]})


class PolynomialTests(unittest.TestCase):
    def test_examples(self):
        self.assertEqual((is_polynomial((1, -3)), is_polynomial((1, True)), polynomial_value((0, 1, 2), 3, 3)),
                         (True, False, 5))

    def test_is_polynomial(self):
        for value in ((), (0,), (1, -3), (MOST,), (-MOST,), (MOST, -MOST) * 40, (0,) * 80):
            self.assertIs(is_polynomial(value), True)
        for value in ((0,) * 81, (MOST + 1,), (-MOST - 1,), (0,) * 79 + (MOST + 1,), (0,) * 79 + (None,), [], [0],
                      (True,), (0, False), ("1",), "1", "", (1.0,), ((0,),), ([],), {}, {0: 1}, None, 0, 7):
            self.assertIs(is_polynomial(value), False)
        for value in [*odd_values(), Other(), Mask(4, 0, 0), (Mask(4, 0, 0),)]:
            self.assertIs(is_polynomial(value), repr(value) in ("()", "(0, 1)"))

    def test_values(self):
        rng = some_random(25)
        for width in range(1, 65):
            for numbers in some_polynomials(rng)[:: 1 if width in (1, 8, 64) else 5]:
                for word in some_words(width, rng):
                    self.assertEqual(polynomial_value(numbers, word, width), slow_value(numbers, word, width))

    def test_values_of_falling_products(self):
        rng = some_random(26)
        for width in (1, 2, 5, 64):
            for numbers in some_polynomials(rng):
                for word in some_words(width, rng):
                    self.assertEqual(falling_value(numbers, word, width), slow_falling(numbers, word, width))


class FallingTests(unittest.TestCase):
    def test_examples(self):
        self.assertEqual(falling_numbers((0, 0, 0, 0, 1)), (0, 1, 7, 6, 1))
        self.assertEqual((power_numbers((0, 1, 1)), falling_numbers(()), power_numbers(())), ((0, 0, 1), (), ()))

    def test_same_values(self):
        rng = some_random(27)
        huge = 10 ** 400 - 1
        more = [(huge,) * 80, (-huge,) * 80, (huge, -huge, 0, 1) * 20, (10 ** 399,)]
        for numbers in [*some_polynomials(rng), *more]:
            falling = falling_numbers(numbers)
            powers = power_numbers(numbers)
            self.assertEqual((len(falling), len(powers)), (len(numbers), len(numbers)))
            self.assertIsInstance(falling, tuple)
            self.assertIsInstance(powers, tuple)
            for x in (0, 1, 2, 3, -1, 50, 79, 80, 10 ** 9):
                value = sum(number * x ** place for place, number in enumerate(numbers))
                self.assertEqual(sum(n * falling_product(x, k) for k, n in enumerate(falling)), value)
                value = sum(number * falling_product(x, place) for place, number in enumerate(numbers))
                self.assertEqual(sum(n * x ** k for k, n in enumerate(powers)), value)
            self.assertEqual((power_numbers(falling), falling_numbers(powers)), (numbers, numbers))


class PlaceTests(unittest.TestCase):
    def test_examples(self):
        self.assertEqual([place_bits(k, 3) for k in range(5)], [3, 3, 2, 2, 0])
        self.assertEqual((place_limit(3), place_limit(64)), (4, 66))

    def test_bits(self):
        twos = 0
        for place in range(1001):
            if place > 0:
                twos += factors(place)
            for width in (1, 2, 3, 8, 33, 63, 64):
                self.assertEqual(place_bits(place, width), max(width - twos, 0))

    def test_limits(self):
        for width in range(1, 65):
            limit = next(k for k in range(100) if math.factorial(k) % 2 ** width == 0)
            self.assertEqual(place_limit(width), limit)
            self.assertEqual((place_bits(limit, width), place_bits(1000, width)), (0, 0))
            self.assertGreater(place_bits(limit - 1, width), 0)


def factors(number):
    return len(bin(number)) - len(bin(number).rstrip("0"))


class ReducedFormTests(unittest.TestCase):
    def test_examples(self):
        self.assertEqual(reduced_form((0, 0, 0, 0, 1), 3), (0, 1, 3, 2))
        self.assertEqual(reduced_powers((0, 0, 0, 0, 1), 3), (0, 6, 1, 2))
        self.assertEqual((least_degree((0, 0, 0, 0, 1), 3), least_degree((0, 4, 4), 3)), (3, -1))

    def check_form(self, form, width):
        """The form has as many integers as told, each within its bounds."""
        bits = slow_bits(width)
        self.assertIsInstance(form, tuple)
        self.assertEqual(len(form), len(bits))
        for number, many in zip(form, bits):
            self.assertIs(type(number), int)
            self.assertTrue(0 <= number < 2 ** many)

    def test_all_words_of_small_widths(self):
        rng = some_random(28)
        for width in range(1, 7):
            for numbers in some_polynomials(rng):
                form = reduced_form(numbers, width)
                powers = reduced_powers(numbers, width)
                self.check_form(form, width)
                self.check_form(powers, width)
                table = value_table(numbers, width)
                self.assertEqual(falling_table(form, width), table)
                self.assertEqual(value_table(powers, width), table)

    def test_each_function_has_one_form(self):
        for width in (1, 2, 3):
            tables = {}
            for form in all_reduced_forms(width):
                tables[falling_table(form, width)] = form
            self.assertEqual(len(tables), 2 ** sum(slow_bits(width)))
            powers = {}
            for numbers in all_reduced_forms(width):
                table = value_table(numbers, width)
                self.assertEqual(reduced_form(numbers, width), tables[table])
                self.assertEqual(reduced_powers(numbers, width), numbers)
                powers[table] = numbers
            self.assertEqual(set(powers), set(tables))

    def test_all_widths(self):
        rng = some_random(29)
        for width in range(1, 65):
            for numbers in some_polynomials(rng)[width % 3::3 if width > 62 else 13]:
                form = reduced_form(numbers, width)
                powers = reduced_powers(numbers, width)
                self.check_form(form, width)
                self.check_form(powers, width)
                for word in [*range(min(2 ** width, 68)), *some_words(width, rng)]:
                    value = slow_value(numbers, word, width)
                    self.assertEqual(slow_falling(form, word, width), value)
                    self.assertEqual(slow_value(powers, word, width), value)
                self.assertEqual((reduced_form(powers, width), reduced_powers(powers, width)), (form, powers))

    def test_degrees(self):
        rng = some_random(30)
        for width in (1, 2, 3, 8, 64):
            for numbers in some_polynomials(rng):
                degree = least_degree(numbers, width)
                for form in (reduced_form(numbers, width), reduced_powers(numbers, width)):
                    self.assertEqual(degree, max([k for k, n in enumerate(form) if n], default=-1))
                    self.assertEqual(form_degree(form), degree)
        self.assertEqual([least_degree(numbers, 64) for numbers in ((), (0, 2 ** 64), (5,), (0, 2 ** 63))],
                         [-1, -1, 0, 1])
        self.assertEqual(least_degree((0,) * 79 + (1,), 64), 65)

    def test_zero_everywhere(self):
        for width in (1, 2, 3, 4):
            for numbers in itertools.product(range(-2, 5, 2), repeat=4):
                expected = not any(value_table(numbers, width))
                self.assertIs(is_zero_everywhere(numbers, width), expected)
        self.assertIs(is_zero_everywhere(product_of(range(66)), 64), True)
        self.assertIs(is_zero_everywhere(product_of(range(65)), 64), False)
        self.assertIs(is_zero_everywhere((), 64), True)

    def test_falling_products_that_are_lost(self):
        for width in (1, 2, 3, 8, 31, 32, 64):
            for place in range(place_limit(width) + 3):
                bits = slow_place_bits(place, width)
                numbers = product_of(range(place))
                lost = tuple(2 ** bits * number for number in numbers)
                self.assertEqual(reduced_form(lost, width), (0,) * place_limit(width))
                if bits > 0:
                    kept = tuple(2 ** (bits - 1) * number for number in numbers)
                    expected = [0] * place_limit(width)
                    expected[place] = 2 ** (bits - 1)
                    self.assertEqual(reduced_form(kept, width), tuple(expected))
                    self.assertEqual(least_degree(kept, width), place)


class AlikeTests(unittest.TestCase):
    def test_examples(self):
        self.assertIs(polynomials_alike((0, 3, 5), (0, 7, 1), 3), True)
        self.assertEqual(polynomial_difference((0, 0, 0, 0, 1), (0, 0, 1), 3), (2, 0, 4))

    def check_pair(self, one, other, width):
        """[29] against all words."""
        first, second = value_table(one, width), value_table(other, width)
        self.assertIs(polynomials_alike(one, other, width), first == second)
        found = polynomial_difference(one, other, width)
        if first == second:
            self.assertIsNone(found)
            return
        word = next(k for k in range(2 ** width) if first[k] != second[k])
        self.assertEqual(found, (word, first[word], second[word]))

    def test_all_words_of_small_widths(self):
        rng = some_random(31)
        for width in range(1, 6):
            for _ in range(150):
                one = tuple(rng.randrange(-4, 5) for _ in range(rng.randrange(6)))
                other = tuple(rng.randrange(-4, 5) for _ in range(rng.randrange(6)))
                self.check_pair(one, other, width)
                self.check_pair(one, one, width)
                self.check_pair(one, (*one, *other), width)
            for place in range(place_limit(width) + 2):
                lost = product_of(range(place))
                for bits in range(width + 1):
                    self.check_pair((0,), tuple(2 ** bits * number for number in lost), width)

    def test_great_widths(self):
        rng = some_random(32)
        for width in (31, 32, 63, 64):
            for numbers in some_polynomials(rng)[width % 2::2]:
                for other in (reduced_powers(numbers, width), power_numbers(reduced_form(numbers, width)),
                              tuple(number + 2 ** width for number in numbers)):
                    self.assertIs(polynomials_alike(numbers, other, width), True)
                    self.assertIsNone(polynomial_difference(numbers, other, width))
                for place in (0, 1, 2, 17, place_limit(width) - 1):
                    self.check_one_more(numbers, place, width)

    def check_one_more(self, numbers, place, width):
        """A falling product that is added makes the values differ first at its place."""
        extra = product_of(range(place))
        factor = 2 ** (slow_place_bits(place, width) - 1)
        size = max(len(numbers), len(extra))
        other = [0] * size
        for at in range(size):
            other[at] = numbers[at] if at < len(numbers) else 0
            other[at] += factor * extra[at] if at < len(extra) else 0
        other = tuple(number % 2 ** width for number in other)
        expected = (place, slow_value(numbers, place, width), slow_value(other, place, width))
        self.assertIs(polynomials_alike(numbers, other, width), False)
        self.assertEqual(polynomial_difference(numbers, other, width), expected)
        self.assertEqual(polynomial_difference(other, numbers, width), (place, expected[2], expected[1]))


def difference_at(values, index):
    """The difference by the words of [30]."""
    return sum((-1) ** (index - i) * math.comb(index, i) * values[i] for i in range(index + 1))


def lacks(values, width, index):
    """Whether the difference at an index is not a multiple as it must be."""
    return difference_at(values, index) % 2 ** (width - slow_place_bits(index, width)) != 0


class ThroughTests(unittest.TestCase):
    def test_examples(self):
        self.assertEqual(polynomial_through((0, 1, 4, 1), 3), ("form", (0, 1, 1, 0)))
        self.assertEqual(polynomial_through((0, 1, 1, 0), 3), ("none", 2))
        self.assertIs(check_through((0, 1), 3, ("form", (0, 1, 1, 0))), True)

    def check_values(self, values, width, known):
        """known leads from the values at the first words to the forms with these values."""
        found = polynomial_through(values, width)
        self.assertIs(check_through(values, width, found), True)
        if values in known:
            kind, form = found
            self.assertEqual(kind, "form")
            self.assertIn(form, known[values])
            self.assertFalse(any(form[len(values):]))
        else:
            index = next(k for k in range(len(values)) if lacks(values, width, k))
            self.assertEqual(found, ("none", index))

    def test_all_values_of_small_widths(self):
        for width in (1, 2, 3):
            limit = place_limit(width)
            for many in range(1, limit + 1):
                known = {}
                for form in all_reduced_forms(width):
                    known.setdefault(falling_table(form, width)[:many], []).append(form)
                for values in itertools.product(range(2 ** width), repeat=many):
                    self.check_values(values, width, known)

    def test_all_widths(self):
        rng = some_random(33)
        for width in range(1, 65):
            limit = place_limit(width)
            for numbers in some_polynomials(rng)[:: 1 if width == 64 else 9]:
                values = tuple(slow_value(numbers, word, width) for word in range(limit))
                self.assertEqual(polynomial_through(values, width), ("form", reduced_form(numbers, width)))
                self.assertIs(check_through(values, width, ("form", reduced_form(numbers, width))), True)
                many = rng.randrange(1, limit + 1)
                kind, form = polynomial_through(values[:many], width)
                self.assertEqual((kind, form[many:]), ("form", (0,) * (limit - many)))
                self.assertEqual(form[:many], reduced_form(numbers, width)[:many])

    def test_values_that_no_polynomial_has(self):
        rng = some_random(34)
        for width in (2, 3, 8, 31, 64):
            for _ in range(20):
                many = rng.randrange(1, place_limit(width) + 1)
                values = tuple(rng.randrange(2 ** width) for _ in range(many))
                wrong = [k for k in range(many) if lacks(values, width, k)]
                found = polynomial_through(values, width)
                self.assertEqual(found[0], "none" if wrong else "form")
                self.assertEqual(found[1] if wrong else 0, min(wrong, default=0))
                for index in range(-2, many + 2):
                    self.assertIs(check_through(values, width, ("none", index)), index in wrong)
                self.assertIs(check_through(values, width, ("form", (0,) * place_limit(width))), not any(values))

    def test_more_values_than_a_form_has_numbers(self):
        for width in (3, 64):
            limit = place_limit(width)
            values = tuple(slow_value((1, 2, 3), word, width) for word in range(limit + 3))
            found = polynomial_through(values, width)
            self.assertEqual(found, ("form", reduced_form((1, 2, 3), width)))
            self.assertIs(check_through(values, width, found), True)
            wrong = (*values[:-1], (values[-1] + 1) % 2 ** width)
            self.assertEqual(polynomial_through(wrong, width), ("none", limit + 2))
            self.assertIs(check_through(wrong, width, found), False)
            self.assertIs(check_through(wrong, width, ("none", limit + 2)), True)

    def test_all_forms_are_checked(self):
        for width in (1, 2, 3):
            forms = list(all_reduced_forms(width))
            for many in range(1, place_limit(width) + 1):
                for values in (falling_table(form, width)[:many] for form in forms[::37]):
                    for form in forms[::5]:
                        expected = falling_table(form, width)[:many] == values
                        self.assertIs(check_through(values, width, ("form", form)), expected)

    def test_forms_that_are_not_reduced(self):
        values = (0, 1, 4, 1)
        for form in ((0, 1, 1, 0, 0), (0, 1, 1), (8, 1, 1, 0), (0, 9, 1, 0), (0, 1, 5, 0), (0, 1, 1, 4), (0, 1, 1, -4),
                     (-8, 1, 1, 0), [0, 1, 1, 0], (False, True, 1, 0), (0, True, 1, 0), ("0", 1, 1, 0), (), None, 0):
            self.assertIs(check_through(values, 3, ("form", form)), False)
        self.assertIs(check_through(values, 3, ("form", (0, 1, 1, 0))), True)

    def test_values_of_all_kinds(self):
        for values, right in (((0, 1, 4, 1), ("form", (0, 1, 1, 0))), ((0, 1, 1, 0), ("none", 2))):
            self.assertIs(check_through(values, 3, right), True)
            for value in [*odd_values(), Other(), Mask(4, 0, 0), (Mask(4, 0, 0), 0), ("none",), ("form",), ("none", "2"),
                          ("none", None), ("none", (2,)), ("none", True), ("other", 2), ("none", 2 ** 64)]:
                self.assertIs(check_through(values, 3, value), False)
            for value in changed_values(right):
                self.assertIs(check_through(values, 3, value), False, value)
        self.assertIs(check_through((1, 1), 1, ("none", False)), False)


if __name__ == "__main__":
    unittest.main()
