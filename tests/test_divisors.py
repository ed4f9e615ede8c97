"""[12] to [19] Factors and shifts in the place of a division."""

import unittest

from tests.helpers import Other, odd_values, some_random
from wordsalike.divisors import (count_wrong, is_right, least_shift, least_wrong, least_wrong_remainder,
                                 remainder_factors, right_factors, shift_paper, shift_paper_holds, told_remainder,
                                 two_dividends, wrong_dividends)

KINDS = ("plain", "raised")
TOP = 2 ** 64 - 1
GREATEST = 2 ** 200 - 1
DIVISORS = [2, 3, 5, 7, 10, 641, 2 ** 16, 2 ** 32 - 1, 2 ** 32, 2 ** 32 + 1, 10 ** 19, 2 ** 63 - 1, 2 ** 63,
            2 ** 63 + 1, 2 ** 64 - 2, TOP]


def told(factor, shift, x, kind):
    return factor * (x if kind == "plain" else x + 1) // 2 ** shift


def wrong_at(divisor, factor, shift, x, kind="plain"):
    return told(factor, shift, x, kind) != x // divisor


def tops_for(divisor):
    return sorted({top for top in (divisor, divisor + 1, 2 * divisor - 2, 2 * divisor - 1, 2 * divisor, 65535,
                                   2 ** 32 - 1, 2 ** 63, TOP - 1, TOP) if divisor <= top <= TOP})


def some_factors(divisor, shift):
    """Factors near those that are right, and at both ends."""
    near = 2 ** shift // divisor
    factors = {0, 1, 2, GREATEST - 1, GREATEST, 2 ** shift, 2 ** shift - 1}
    factors.update(range(near - 2, near + 4))
    return sorted(factor for factor in factors if 0 <= factor <= GREATEST)


class LeastWrongTests(unittest.TestCase):
    def test_examples(self):
        self.assertEqual((least_wrong(7, 293, 11), least_wrong(3, 5, 4), least_wrong(4, 1, 2)), (685, 3, None))
        self.assertEqual(least_wrong(7, 73, 9, kind="raised"), 518)

    def test_small_numbers_one_by_one(self):
        for divisor in range(2, 10):
            for shift in range(8):
                for factor in range(2 ** shift + 5):
                    for kind in KINDS:
                        found = least_wrong(divisor, factor, shift, kind=kind)
                        if found is None:
                            self.assertEqual((kind, factor * divisor), ("plain", 2 ** shift))
                            found = 2000
                        self.assertFalse(any(wrong_at(divisor, factor, shift, x, kind) for x in range(found)))
                        if found < 2000:
                            self.assertTrue(wrong_at(divisor, factor, shift, found, kind))

    def test_the_kind_is_plain_if_left_out(self):
        for factor in range(60):
            self.assertEqual(least_wrong(7, factor, 8), least_wrong(7, factor, 8, kind="plain"))

    def test_great_numbers(self):
        for divisor in DIVISORS:
            for shift in (0, 1, 63, 64, 65, 100, 128, 191, 192):
                for factor in some_factors(divisor, shift):
                    for kind in KINDS:
                        found = least_wrong(divisor, factor, shift, kind=kind)
                        nothing = kind == "plain" and factor * divisor == 2 ** shift
                        self.assertEqual(found is None, nothing)
                        if found is not None:
                            self.assertTrue(wrong_at(divisor, factor, shift, found, kind))
                            self.check_right_below(divisor, factor, shift, found, kind)

    def check_right_below(self, divisor, factor, shift, found, kind):
        """The factor is right up to the number before, as its two dividends tell."""
        below = [x for x in (*range(20), found - 1, found - 2, found - divisor, found // 2) if 0 <= x < found]
        self.assertFalse(any(wrong_at(divisor, factor, shift, x, kind) for x in below))
        if divisor < found:
            for x in two_dividends(divisor, found - 1, kind=kind):
                self.assertFalse(wrong_at(divisor, factor, shift, x, kind))


class RightFactorTests(unittest.TestCase):
    def test_examples(self):
        self.assertEqual((right_factors(7, 255, 11), right_factors(7, 255, 10)), ((293, 293), None))
        self.assertEqual(right_factors(7, 255, 9, kind="raised"), (73, 73))
        self.assertEqual(two_dividends(7, 255), (7, 251))
        self.assertEqual(two_dividends(7, 255, kind="raised"), (6, 252))

    def test_small_numbers_one_by_one(self):
        for divisor in range(2, 8):
            for top in (divisor, divisor + 1, 2 * divisor - 1, 2 * divisor, 19, 31, 32):
                for shift in range(9):
                    for kind in KINDS:
                        self.check_all_factors(divisor, top, shift, kind)

    def check_all_factors(self, divisor, top, shift, kind):
        two = two_dividends(divisor, top, kind=kind)
        self.assertTrue(all(0 <= x <= top for x in two))
        right = []
        for factor in range(2 * 2 ** shift + 2):
            good = not any(wrong_at(divisor, factor, shift, x, kind) for x in range(top + 1))
            self.assertEqual(good, not any(wrong_at(divisor, factor, shift, x, kind) for x in two))
            self.assertEqual(good, is_right(divisor, top, (factor, shift), kind=kind))
            if good:
                right.append(factor)
        expected = (right[0], right[-1]) if right else None
        self.assertEqual(right_factors(divisor, top, shift, kind=kind), expected)
        if right:
            self.assertEqual(len(right), right[-1] - right[0] + 1)

    def test_great_numbers(self):
        for divisor in DIVISORS:
            for top in tops_for(divisor):
                for kind in KINDS:
                    for shift in (0, 1, 32, 63, 64, 65, 96, 127, 128, 192):
                        self.check_range(divisor, top, shift, kind)

    def check_range(self, divisor, top, shift, kind):
        found = right_factors(divisor, top, shift, kind=kind)
        if found is None:
            for factor in some_factors(divisor, shift):
                self.assertFalse(is_right(divisor, top, (factor, shift), kind=kind))
            return
        low, high = found
        for factor in {low, high, (low + high) // 2}:
            least = least_wrong(divisor, factor, shift, kind=kind)
            self.assertTrue(least is None or least > top)
        for factor in (low - 1, high + 1):
            if factor >= 0:
                self.assertLessEqual(least_wrong(divisor, factor, shift, kind=kind), top)

    def test_two_dividends(self):
        for divisor in DIVISORS:
            for top in tops_for(divisor):
                one, other = two_dividends(divisor, top)
                self.assertEqual((one, other % divisor), (divisor, divisor - 1))
                self.assertTrue(top - divisor < other <= top)
                one, other = two_dividends(divisor, top, kind="raised")
                self.assertEqual((one, other % divisor), (divisor - 1, 0))
                self.assertTrue(top - divisor < other <= top)


class IsRightTests(unittest.TestCase):
    def test_examples(self):
        self.assertIs(is_right(10, 65535, (52429, 19)), True)
        self.assertIs(is_right(10, 65535, (52428, 19)), False)
        self.assertIs(is_right(10, 65535, 19), False)

    def test_values_of_all_kinds(self):
        for value in [*odd_values(), Other(), 52429]:
            self.assertIs(is_right(10, 65535, value), False)
            self.assertIs(is_right(10, 65535, (52429, value)), False)
            if value != 52429:
                self.assertIs(is_right(10, 65535, (value, 19)), False)
        for value in ([52429, 19], (52429,), (52429, 19, 0), (52429, 19, 19), ((52429, 19),), (52429, "19"),
                      {"factor": 52429}, (19, 52429)):
            self.assertIs(is_right(10, 65535, value), False)

    def test_true_is_no_factor_and_no_shift(self):
        self.assertTrue(is_right(2, 255, (1, 1)))
        self.assertFalse(is_right(2, 255, (True, 1)))
        self.assertFalse(is_right(2, 255, (1, True)))

    def test_bounds(self):
        self.assertTrue(is_right(2, TOP, (2 ** 191, 192)))
        self.assertFalse(is_right(2, TOP, (2 ** 192, 193)))
        self.assertFalse(is_right(2, TOP, (2 ** 199, 200)))
        self.assertFalse(is_right(2, 255, (-1, 1)))
        self.assertFalse(is_right(2, 255, (1, -1)))
        self.assertFalse(is_right(2, TOP, (GREATEST, 192)))
        self.assertFalse(is_right(2, TOP, (GREATEST + 1, 192)))
        self.assertFalse(is_right(2, TOP, (0, 0)))
        self.assertFalse(is_right(2, TOP, (10 ** 399, 0)))


class LeastShiftTests(unittest.TestCase):
    def test_examples(self):
        self.assertEqual(least_shift(7, 255), (293, 11))
        self.assertEqual(least_shift(7, 255, kind="raised"), (73, 9))
        self.assertEqual(least_shift(10, 65535), (52429, 19))

    def test_small_numbers_one_by_one(self):
        for divisor in range(2, 9):
            for top in range(divisor, 40):
                for kind in KINDS:
                    self.assertEqual(least_shift(divisor, top, kind=kind), self.slow_shift(divisor, top, kind))

    def slow_shift(self, divisor, top, kind):
        shift = 0
        while True:
            for factor in range(2 ** shift + 1):
                if not any(wrong_at(divisor, factor, shift, x, kind) for x in range(top + 1)):
                    return (factor, shift)
            shift += 1

    def test_great_numbers(self):
        for divisor in DIVISORS:
            for top in tops_for(divisor):
                for kind in KINDS:
                    factor, shift = least_shift(divisor, top, kind=kind)
                    self.assertGreaterEqual(shift, 1)
                    self.assertEqual(right_factors(divisor, top, shift, kind=kind)[0], factor)
                    for less in range(shift):
                        self.assertIsNone(right_factors(divisor, top, less, kind=kind))
                    for greater in (shift + 1, shift + 2, 150, 192):
                        self.assertIsNotNone(right_factors(divisor, top, greater, kind=kind))


class ShiftPaperTests(unittest.TestCase):
    def test_examples(self):
        self.assertIs(shift_paper_holds(7, 255, (293, 11, 146, 7, 251)), True)
        self.assertIs(shift_paper_holds(7, 255, (586, 12, 292, 7, 251)), False)

    def test_papers_hold(self):
        cases = [(divisor, top) for divisor in range(2, 12) for top in range(divisor, 50)]
        cases.extend((divisor, top) for divisor in DIVISORS for top in tops_for(divisor))
        for divisor, top in cases:
            for kind in KINDS:
                paper = shift_paper(divisor, top, kind=kind)
                self.assertIs(type(paper), tuple)
                self.assertTrue(shift_paper_holds(divisor, top, paper, kind=kind), (divisor, top, kind))
                self.assertTrue(self.slow_holds(divisor, top, paper, kind))
                self.assertEqual(paper[:2], least_shift(divisor, top, kind=kind))

    def slow_holds(self, divisor, top, paper, kind):
        """The words of [17] for five integers, with dividends tried one by one if they are few."""
        factor, shift, last, one, other = paper
        numbers = range(top + 1) if top < 100 else two_dividends(divisor, top, kind=kind)
        return (1 <= shift <= 192 and 0 <= factor <= GREATEST and 0 <= last <= GREATEST
                and 0 <= one <= top and 0 <= other <= top
                and not any(wrong_at(divisor, factor, shift, x, kind) for x in numbers)
                and told(last, shift - 1, one, kind) < one // divisor
                and told(last + 1, shift - 1, other, kind) > other // divisor)

    def test_all_small_papers(self):
        for kind in KINDS:
            for divisor, top in ((2, 3), (3, 5), (3, 7)):
                held = 0
                for factor in range(8):
                    for shift in range(5):
                        for last in range(8):
                            for one in range(-1, top + 2):
                                for other in range(-1, top + 2):
                                    paper = (factor, shift, last, one, other)
                                    good = self.slow_holds(divisor, top, paper, kind)
                                    self.assertIs(shift_paper_holds(divisor, top, paper, kind=kind), good)
                                    held += good
                self.assertGreater(held, 0)

    def test_values_of_all_kinds(self):
        paper = (293, 11, 146, 7, 251)
        for value in [*odd_values(), Other(), *paper, list(paper), paper[:4], (*paper, 0), (paper,)]:
            self.assertIs(shift_paper_holds(7, 255, value), False)
        for at in range(5):
            for value in [*odd_values(), Other(), [paper[at]], str(paper[at])]:
                changed = (*paper[:at], value, *paper[at + 1:])
                self.assertIs(shift_paper_holds(7, 255, changed), False, changed)

    def test_true_is_no_integer(self):
        # For 2 up to 2 this is a paper, with 0 and 1 among its items.
        paper = shift_paper(2, 2)
        self.assertTrue(shift_paper_holds(2, 2, paper))
        for at in range(5):
            if paper[at] in (0, 1):
                changed = (*paper[:at], bool(paper[at]), *paper[at + 1:])
                self.assertFalse(shift_paper_holds(2, 2, changed))


class WrongDividendTests(unittest.TestCase):
    def first(self, divisor, factor, shift, start, many):
        return [x for _, x in zip(range(many), wrong_dividends(divisor, factor, shift, start=start))]

    def test_examples(self):
        self.assertEqual(count_wrong(3, 23, 6, 4), 9)
        found = [x for x, turn in zip(wrong_dividends(3, 6, 4, start=9), range(4))]
        self.assertEqual(found, [11, 14, 16, 17])

    def test_small_numbers_one_by_one(self):
        for divisor in range(2, 8):
            for shift in range(7):
                for factor in range(2 ** shift + 4):
                    wrong = [x for x in range(400) if wrong_at(divisor, factor, shift, x)]
                    for top in (divisor, divisor + 1, 2 * divisor - 1, 30, 77):
                        count = sum(1 for x in wrong if x <= top)
                        self.assertEqual(count_wrong(divisor, top, factor, shift), count)
                    for start in (0, 1, divisor, 17, 30, 99):
                        later = [x for x in wrong if x >= start][:30]
                        self.assertEqual(self.first(divisor, factor, shift, start, len(later)), later)

    def test_from_the_beginning_if_left_out(self):
        found = [x for _, x in zip(range(5), wrong_dividends(3, 6, 4))]
        self.assertEqual(found, self.first(3, 6, 4, 0, 5))
        self.assertEqual(found[0], least_wrong(3, 6, 4))

    def test_none_if_right_everywhere(self):
        self.assertEqual(list(wrong_dividends(4, 1, 2)), [])
        self.assertEqual(list(wrong_dividends(2, 2 ** 191, 192, start=TOP)), [])
        self.assertEqual(count_wrong(4, TOP, 1, 2), 0)

    def test_left_early_and_begun_again(self):
        one = wrong_dividends(7, 293, 11)
        other = wrong_dividends(7, 293, 11)
        self.assertEqual([next(one), next(one)], [685, 692])
        self.assertEqual(next(other), 685)
        one.close()
        self.assertEqual(next(other), 692)

    def test_great_numbers(self):
        for divisor in DIVISORS:
            for shift in (0, 63, 64, 65, 128, 192):
                for factor in some_factors(divisor, shift):
                    least = least_wrong(divisor, factor, shift)
                    if least is None:
                        continue
                    self.assertEqual(self.first(divisor, factor, shift, 0, 1), [least])
                    for start in (least, least + 1, 2 ** 32, TOP - 1, TOP):
                        self.check_some(divisor, factor, shift, start)

    def check_some(self, divisor, factor, shift, start):
        found = self.first(divisor, factor, shift, start, 4)
        self.assertEqual(found, sorted(set(found)))
        self.assertGreaterEqual(found[0], start)
        for x in found:
            self.assertTrue(wrong_at(divisor, factor, shift, x))
        for before, after in zip([start - 1, *found], found):
            for x in {before + 1, after - 1, (before + after + 1) // 2}:
                if before < x < after:
                    self.assertFalse(wrong_at(divisor, factor, shift, x))

    def test_counts_of_great_numbers(self):
        for divisor in DIVISORS:
            for shift in (0, 1, 64, 100, 192):
                for factor in some_factors(divisor, shift):
                    for top in tops_for(divisor):
                        count = count_wrong(divisor, top, factor, shift)
                        least = least_wrong(divisor, factor, shift)
                        self.assertEqual(count == 0, least is None or least > top)
                        self.assertTrue(0 <= count <= top + 1)
                        if top > divisor:
                            before = count_wrong(divisor, top - 1, factor, shift)
                            self.assertEqual(count - before, wrong_at(divisor, factor, shift, top))

    def test_counts_in_random_ranges(self):
        rng = some_random(18)
        for _ in range(300):
            divisor = rng.randrange(2, 60)
            shift = rng.randrange(12)
            factor = rng.randrange(2 * 2 ** shift // divisor + 3)
            top = rng.randrange(divisor, 700)
            count = sum(wrong_at(divisor, factor, shift, x) for x in range(top + 1))
            self.assertEqual(count_wrong(divisor, top, factor, shift), count)

    def test_counts_told_by_a_formula(self):
        # The factor 0 is wrong from the divisor on, a factor that tells x itself from 1 on.
        self.assertEqual(count_wrong(10, TOP, 0, 192), TOP + 1 - 10)
        self.assertEqual(count_wrong(10, TOP, 1, 0), TOP)
        self.assertEqual(count_wrong(3, TOP, GREATEST, 0), TOP)
        # With the excess -1 the multiples of 2 ** 32 are told wrong, and no other dividends.
        factor, shift = (2 ** 192 - 1) // 2 ** 32, 192
        self.assertEqual(count_wrong(2 ** 32, TOP, factor, shift), 2 ** 32 - 1)


class RemainderTests(unittest.TestCase):
    def test_examples(self):
        self.assertEqual(remainder_factors(7, 255, 11), (293, 293))
        self.assertEqual((told_remainder(7, 293, 11, 100), least_wrong_remainder(7, 293, 11)), (2, 683))

    def slow_told(self, divisor, factor, shift, number):
        return factor * number % 2 ** shift * divisor // 2 ** shift

    def test_small_numbers_one_by_one(self):
        for divisor in range(2, 9):
            for shift in range(8):
                leasts = {}
                for factor in range(2 ** shift):
                    right = [self.slow_told(divisor, factor, shift, x) == x % divisor for x in range(300)]
                    leasts[factor] = right.index(False) if False in right else None
                    self.assertEqual(least_wrong_remainder(divisor, factor, shift), leasts[factor])
                    for x in (0, 1, 5, 77):
                        self.assertEqual(told_remainder(divisor, factor, shift, x),
                                         self.slow_told(divisor, factor, shift, x))
                for top in range(divisor, 60):
                    good = [f for f, least in leasts.items() if least is None or least > top]
                    expected = (good[0], good[-1]) if good else None
                    self.assertEqual(remainder_factors(divisor, top, shift), expected)
                    if good:
                        self.assertEqual(len(good), good[-1] - good[0] + 1)

    def test_great_numbers(self):
        for divisor in DIVISORS:
            for shift in (0, 1, 2, 64, 65, 127, 128, 192):
                for factor in some_factors(divisor, shift):
                    if factor < 2 ** shift:
                        self.check_least(divisor, factor, shift)
                for top in tops_for(divisor):
                    self.check_range(divisor, top, shift)

    def check_least(self, divisor, factor, shift):
        least = least_wrong_remainder(divisor, factor, shift)
        self.assertEqual(least is None, factor * divisor == 2 ** shift)
        if least is not None:
            self.assertNotEqual(self.slow_told(divisor, factor, shift, least), least % divisor)
        end = 10 ** 25 if least is None else least
        for x in (0, 1, 2, divisor - 1, divisor, divisor + 1, end // 2, end - divisor, end - 2, end - 1):
            if 0 <= x < end:
                self.assertEqual(self.slow_told(divisor, factor, shift, x), x % divisor)

    def check_range(self, divisor, top, shift):
        found = remainder_factors(divisor, top, shift)
        if found is None:
            for factor in some_factors(divisor, shift):
                if factor < 2 ** shift:
                    self.assertLessEqual(least_wrong_remainder(divisor, factor, shift), top)
            return
        low, high = found
        self.assertTrue(0 <= low <= high < 2 ** shift)
        for factor in (low - 1, low, (low + high) // 2, high, high + 1):
            if 0 <= factor < 2 ** shift:
                least = least_wrong_remainder(divisor, factor, shift)
                self.assertEqual(least is None or least > top, low <= factor <= high)

    def test_told_remainders_of_great_numbers(self):
        for shift in (0, 1, 64, 128, 192):
            for factor in (0, 1, 2 ** shift // 3, 2 ** shift - 1):
                if factor < 2 ** shift:
                    for number in (0, 1, 12345678901234567890, TOP):
                        for divisor in DIVISORS:
                            self.assertEqual(told_remainder(divisor, factor, shift, number),
                                             self.slow_told(divisor, factor, shift, number))

    def test_right_for_the_quotients_too(self):
        for divisor in (3, 7, 10, 2 ** 64 - 1):
            for shift in (70, 128, 192):
                found = remainder_factors(divisor, TOP, shift)
                if found is not None:
                    self.assertTrue(is_right(divisor, TOP, (found[0], shift)))
                    self.assertTrue(is_right(divisor, TOP, (found[1], shift)))


if __name__ == "__main__":
    unittest.main()
