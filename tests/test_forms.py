"""[20], [23] Forms and the class Divisor."""

import unittest

from tests.helpers import Other, odd_values, some_random
from wordsalike.divisors import least_shift, right_factors
from wordsalike.errors import BadWidth, BadWord, NoDivisor, TooLarge, UnequalWidths
from wordsalike.forms import Divisor, added_form, best_form, form_value
from wordsalike.masks import Mask

TOP = 2 ** 64 - 1


def great_divisors():
    near = [2 ** k + more for k in (2, 3, 8, 31, 32, 33, 62, 63) for more in (-1, 0, 1)]
    return sorted({2, 3, 5, 7, 10, 641, 10 ** 9, 10 ** 19, TOP // 2, TOP // 3, TOP - 1, TOP, *near})


def some_words(divisor, top):
    """Words at both ends and at multiples of a divisor."""
    rng = some_random(divisor)
    found = {0, 1, top, top - 1, top // 2, divisor - 1, divisor, divisor + 1}
    for many in (2, top // divisor, top // divisor // 2, *[rng.randrange(top // divisor + 1) for _ in range(5)]):
        found |= {many * divisor - 1, many * divisor, many * divisor + divisor - 1}
    found |= {rng.randrange(top + 1) for _ in range(5)}
    return sorted(word for word in found if 0 <= word <= top)


def added_quotient(form, width, word):
    """The quotient that [20] tells with an added form; None if a part of it is no word."""
    factor, amount = form
    told = factor * word // 2 ** width
    total = (word - told) // 2 + told
    if not all(0 <= part < 2 ** width for part in (factor, told, word - told, total)):
        return None
    return total // 2 ** amount


class BestFormTests(unittest.TestCase):
    def test_examples(self):
        self.assertEqual(best_form(7, 8), ("raised", 73, 9))
        self.assertEqual(best_form(10, 16), ("plain", 52429, 19))
        self.assertEqual((best_form(8, 8), form_value(best_form(7, 8), 252)), (("shift", 1, 3), 36))

    def test_small_widths_one_by_one(self):
        for width in range(2, 9):
            for divisor in range(2, 2 ** width):
                form = best_form(divisor, width)
                for word in range(2 ** width):
                    self.assertEqual(form_value(form, word), word // divisor)
                self.check_kind(form, divisor, width)

    def check_kind(self, form, divisor, width):
        """The form is of the kind that is told, with the least shift and then the least factor."""
        kind, factor, shift = form
        top = 2 ** width - 1
        if bin(divisor).count("1") == 1:
            self.assertEqual(form, ("shift", 1, len(bin(divisor)) - 3))
            return
        plain = least_shift(divisor, top)
        self.assertEqual(kind, "plain" if plain[0] <= top else "raised")
        self.assertLessEqual(factor, top)
        self.assertEqual(right_factors(divisor, top, shift, kind=kind)[0], factor)
        for less in range(1, shift):
            self.assertIsNone(right_factors(divisor, top, less, kind=kind))

    def test_width_64(self):
        for divisor in great_divisors():
            form = best_form(divisor, 64)
            self.check_kind(form, divisor, 64)
            for word in some_words(divisor, TOP):
                self.assertEqual(form_value(form, word), word // divisor)
        for power in range(1, 64):
            self.assertEqual(best_form(2 ** power, 64), ("shift", 1, power))

    def test_all_widths(self):
        for width in range(2, 65):
            top = 2 ** width - 1
            for divisor in sorted({2, 3, 2 ** (width - 1), top // 2, top - 1, top}):
                if divisor >= 2:
                    form = best_form(divisor, width)
                    self.check_kind(form, divisor, width)
                    for word in some_words(divisor, top):
                        self.assertEqual(form_value(form, word), word // divisor)


class FormValueTests(unittest.TestCase):
    def test_any_form(self):
        for factor in (0, 1, 3, 73, 255, 2 ** 64 - 1, 2 ** 200 - 1):
            for shift in (0, 1, 9, 64, 192):
                for word in (0, 1, 2, 252, 2 ** 63, TOP):
                    self.assertEqual(form_value(("plain", factor, shift), word), factor * word // 2 ** shift)
                    self.assertEqual(form_value(("raised", factor, shift), word), factor * (word + 1) // 2 ** shift)
                    self.assertEqual(form_value(("shift", factor, shift), word), word // 2 ** shift)


class AddedFormTests(unittest.TestCase):
    def test_example(self):
        self.assertEqual(added_quotient((37, 2), 8, 252), 36)
        self.assertEqual(added_form(7, 8)[1], 2)

    def test_small_widths_one_by_one(self):
        for width in range(2, 9):
            for divisor in range(2, 2 ** width):
                form = added_form(divisor, width)
                self.check_amount(form, divisor)
                for word in range(2 ** width):
                    self.assertEqual(added_quotient(form, width, word), word // divisor)

    def check_amount(self, form, divisor):
        least = 0
        while divisor > 2 ** least:
            least += 1
        self.assertEqual(form[1], least - 1)

    def test_width_64(self):
        for divisor in great_divisors():
            form = added_form(divisor, 64)
            self.check_amount(form, divisor)
            for word in some_words(divisor, TOP):
                self.assertEqual(added_quotient(form, 64, word), word // divisor)

    def test_all_widths(self):
        for width in range(2, 65):
            top = 2 ** width - 1
            for divisor in sorted({2, 3, 2 ** (width - 1), top // 2, top - 1, top}):
                if divisor >= 2:
                    for word in some_words(divisor, top):
                        self.assertEqual(added_quotient(added_form(divisor, width), width, word), word // divisor)


class DivisorTests(unittest.TestCase):
    def test_example(self):
        one = Divisor(7, 8)
        self.assertEqual((one(252), 21 in one, 22 in one), (36, True, False))
        self.assertEqual(str(one * Divisor(5, 8)), "35 at width 8")
        self.assertIs(one == Divisor(7, 16), False)

    def check_error(self, kind, field, *arguments):
        with self.assertRaises(kind) as caught:
            Divisor(*arguments)
        self.assertIs(caught.exception.value, field)

    def test_values_of_all_kinds(self):
        for value in [*odd_values(), Other(), 0, 65, Mask(4, 0, 0), Divisor(2, 2), 7.0]:
            self.check_error(BadWidth, value, value, value)
            self.check_error(BadWidth, value, 7, value)
            self.check_error(BadWidth, value, 1, value)
            if value != 65 or isinstance(value, bool):
                self.check_error(NoDivisor, value, value, 8)

    def test_bounds(self):
        for width in range(1, 65):
            for value in (-2, -1, 0, 1, 2 ** width, 2 ** width + 1):
                self.check_error(NoDivisor, value, value, width)
            if width > 1:
                for value in (2, 2 ** width - 1):
                    one = Divisor(value, width)
                    self.assertEqual((one.divisor_value, one.width), (value, width))

    def test_quotients(self):
        for width in (2, 3, 5):
            for value in range(2, 2 ** width):
                one = Divisor(value, width)
                for word in range(2 ** width):
                    self.assertEqual(one(word), word // value)
                    self.assertIs(word in one, word % value == 0)
        for value in great_divisors():
            one = Divisor(value, 64)
            for word in some_words(value, TOP):
                self.assertEqual((one(word), word in one), (word // value, word % value == 0))

    def test_words_of_all_kinds(self):
        one = Divisor(7, 8)
        for value in [*odd_values(), Other(), -7, 256, 259, one, Mask(4, 0, 0)]:
            with self.assertRaises(BadWord) as caught:
                one(value)
            self.assertIs(caught.exception.value, value)
            self.assertIs(value in one, False)
        self.assertEqual((one(0), one(255), 0 in one, 255 in one), (0, 36, True, False))
        self.assertIs(2 ** 64 in Divisor(2, 64), False)

    def test_products(self):
        for width in (3, 4, 5):
            for one in range(2, 2 ** width):
                for other in range(2, 2 ** width):
                    self.check_product(one, other, width)
        for one, other in ((2 ** 32, 2 ** 32), (2 ** 32 - 1, 2 ** 32 + 1), (2, 2 ** 63), (3, TOP // 3), (2, TOP // 2),
                           (5, TOP // 5), (4, TOP // 3), (TOP, TOP), (641, 6700417)):
            self.check_product(one, other, 64)

    def check_product(self, one, other, width):
        first, second = Divisor(one, width), Divisor(other, width)
        if one * other >= 2 ** width:
            with self.assertRaises(TooLarge) as caught:
                first * second
            self.assertEqual(caught.exception.limit, 2 ** width - 1)
            return
        product = first * second
        self.assertEqual((product.divisor_value, product.width), (one * other, width))
        self.assertIsInstance(product, Divisor)
        for word in (0, 1, one * other - 1, one * other, 2 ** width - 1):
            self.assertEqual(product(word), second(first(word)))
        self.assertEqual((first.divisor_value, second.divisor_value), (one, other))

    def test_unequal_widths(self):
        for one, other in ((Divisor(7, 8), Divisor(7, 16)), (Divisor(255, 8), Divisor(255, 9)),
                           (Divisor(2, 64), Divisor(2, 63))):
            with self.assertRaises(UnequalWidths):
                one * other
            with self.assertRaises(UnequalWidths):
                other * one

    def test_equal(self):
        told = [(value, width) for width in (2, 3, 4, 64) for value in range(2, min(2 ** width, 9))]
        for one in told:
            for other in told:
                self.assertIs(Divisor(*one) == Divisor(*other), one == other)
                self.assertIs(Divisor(*one) != Divisor(*other), one != other)
        for value in [*odd_values(), Other(), 7, "7 at width 8", (7, 8), Mask(8, 7, 7)]:
            self.assertIs(Divisor(7, 8) == value, False)
            self.assertIs(value == Divisor(7, 8), False)

    def test_str(self):
        self.assertEqual([str(Divisor(7, 8)), str(Divisor(2, 2)), str(Divisor(TOP, 64))],
                         ["7 at width 8", "2 at width 2", "18446744073709551615 at width 64"])

    def test_properties_cannot_be_set(self):
        one = Divisor(7, 8)
        for name in ("width", "divisor_value"):
            with self.assertRaises(AttributeError):
                setattr(one, name, 9)
        self.assertEqual((one.width, one.divisor_value, str(one)), (8, 7, "7 at width 8"))


if __name__ == "__main__":
    unittest.main()
