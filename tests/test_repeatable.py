"""[3] No argument is modified, and the same call returns the same result."""

import copy
import unittest

from wordsalike.comparing import check_verdict, find_verdict, mask_around, stretch_around
from wordsalike.divisible import opposite_of, passes_test, residue_test
from wordsalike.divisors import is_right, shift_paper, shift_paper_holds, two_dividends, wrong_dividends
from wordsalike.expressions import expression_fault
from wordsalike.forms import Divisor, added_form, best_form, form_value
from wordsalike.lifting import check_zeros, count_zeros, each_zero, zero_classes, zero_paper
from wordsalike.lines import line_mask
from wordsalike.masks import Mask
from wordsalike.mixes import bit_difference, least_difference, low_agreement, mix_form, mixes_alike, name_matters
from wordsalike.mixing import Mix
from wordsalike.papers import after_step, check_paper, paper_programs, turned_paper
from wordsalike.passes import compare_programs, short_paper, short_program
from wordsalike.permuting import (check_permutation, composed_form, cycle_bits, find_permutation, inverse_form,
                                  repeated_form)
from wordsalike.reduced import (check_through, falling_numbers, is_polynomial, least_degree, polynomial_difference,
                                polynomial_through, polynomial_value, power_numbers, reduced_form, reduced_powers)
from wordsalike.polynomials import Polynomial
from wordsalike.programs import (Program, all_values, check_classes, class_numbers, folded_program, program_fault,
                                 program_of, run_program)
from wordsalike.reaching import check_input, count_inputs, find_input
from wordsalike.stores import Store
from wordsalike.stretches import Stretch, scaled_stretch
from wordsalike.sums import sum_mask, sum_paper, sum_paper_holds
from wordsalike.tables import bitwise_rows, mix_of_sets, plain_table, set_numbers, straight_numbers
from wordsalike.texts import parse_expression
from wordsalike.turning import check_turning, solve_name, turn_paper

NUMBERS = (1, -3, 10 ** 30 - 1, 0, 7)
PERMUTATION = (3, 5, 2, 4)
MIX = parse_expression("a + 2 * (a & b) - 5")
OTHER_MIX = parse_expression("a ^ (b & 12)")
SHORT_MIX = parse_expression("2 * a + 4 * (b & c)")
TERMS = ((3, Mask.read("0?1?")), (-2, Mask.read("??00")))
STRETCH, OTHER_STRETCH = Stretch(8, 200, 99), Stretch(8, 5, 40)
WORDS = (1, 200, 30, 4)
ROWS = ((("number", 3), ("mul", 0, 4), ("number", 4), ("mul", 5, 6), ("mul", 4, 0), ("sub", 7, 8)), (9,))
OTHER_ROWS = ((("neg", 0), ("add", 4, 1), ("sub", 5, 4)), (6,))
STEPS = (("insert", 4, ("neg", 1)), ("use", 11, 0, 10, ("same",)), ("delete", 4))
LISTS = ["form", [0, 1, [2]], {"a": [0, {"b": 1}]}]
CALLS = [
    (expression_fault, (LISTS,)), (is_right, (7, 255, LISTS)), (shift_paper_holds, (7, 255, LISTS)),
    (shift_paper, (7, 255)), (two_dividends, (7, 255)),
    (best_form, (7, 8)), (form_value, (("plain", 3, 1), 200)), (added_form, (7, 8)), (opposite_of, (7, 64)),
    (residue_test, (7, 8, 3)), (passes_test, ((3, 183, 0, 36), 8, 17)), (is_polynomial, (LISTS,)),
    (is_polynomial, (NUMBERS,)), (polynomial_value, (NUMBERS, 5, 64)), (falling_numbers, (NUMBERS,)),
    (power_numbers, (NUMBERS,)), (reduced_form, (NUMBERS, 64)), (reduced_powers, (NUMBERS, 64)),
    (least_degree, (NUMBERS, 64)), (polynomial_difference, (NUMBERS, PERMUTATION, 64)),
    (polynomial_through, ((5, 7, 9), 64)), (check_through, ((5, 7), 64, LISTS)),
    (check_through, ((5, 7), 64, ["form", [5, 2]])), (find_permutation, (NUMBERS, 64)),
    (check_permutation, (NUMBERS, 64, LISTS)), (composed_form, (NUMBERS, PERMUTATION, 64)),
    (repeated_form, (PERMUTATION, 5, 64)), (inverse_form, (PERMUTATION, 64)), (cycle_bits, (PERMUTATION, 5, 20)),
    (zero_classes, (NUMBERS, 64)), (count_zeros, (NUMBERS, 64)), (zero_paper, (NUMBERS, 64)),
    (check_zeros, (NUMBERS, 64, LISTS)), (check_zeros, (NUMBERS, 64, [[0, 0, "all"]])),
    (mix_form, (MIX, 8)), (mixes_alike, (MIX, OTHER_MIX, 8)), (bit_difference, (MIX, OTHER_MIX, 8)),
    (least_difference, (MIX, OTHER_MIX, 8)), (low_agreement, (MIX, OTHER_MIX, 8)), (name_matters, (MIX, 8, 1)),
    (plain_table, (MIX, 8)), (set_numbers, (MIX, 8)), (mix_of_sets, (tuple(range(-8, 8)), 8)),
    (straight_numbers, (MIX, 8)), (bitwise_rows, (OTHER_MIX, 8)), (turn_paper, (MIX, 8, 0)), (turn_paper, (MIX, 8, 1)),
    (check_turning, (MIX, 8, 0, LISTS)), (check_turning, (MIX, 8, 1, ["same", [0, 0, 0, 0], [0, 1, 0, 0]])),
    (find_input, (SHORT_MIX, 8, 77)), (find_input, (SHORT_MIX, 8, 78)), (check_input, (SHORT_MIX, 8, 77, LISTS)),
    (check_input, (SHORT_MIX, 8, 77, ["never", [[0], []]])), (count_inputs, (SHORT_MIX, 8, 78)), (str, (Mix(MIX, 8),)),
    (sum_mask, (TERMS, 5)), (sum_paper, (TERMS, 5)), (sum_paper_holds, (TERMS, 5, Mask.read("????"), LISTS)),
    (sum_paper_holds, (TERMS, 5, Mask.read("????"), sum_paper(TERMS, 5))), (scaled_stretch, (STRETCH, 7, 3)),
    (line_mask, (STRETCH, 7, 3)), (mask_around, (STRETCH,)), (stretch_around, (Mask.read("?0?1"),)),
    (find_verdict, ("signed", STRETCH, OTHER_STRETCH)), (check_verdict, ("less", STRETCH, OTHER_STRETCH, LISTS)),
    (program_fault, (8, LISTS)), (program_fault, (8, ([["neg", 0]], [4]))), (run_program, (8, ROWS, WORDS)),
    (all_values, (8, ROWS, WORDS)), (class_numbers, (ROWS, OTHER_ROWS)), (check_classes, (ROWS, OTHER_ROWS, LISTS)),
    (folded_program, (ROWS,)), (program_of, (8, MIX)), (after_step, (8, ROWS, STEPS[0])), (short_program, (8, ROWS)),
    (check_paper, (8, ROWS, LISTS, ROWS)), (check_paper, (8, ROWS, STEPS, ROWS)), (turned_paper, (8, ROWS, STEPS)),
    (short_paper, (8, ROWS)), (compare_programs, (8, ROWS, OTHER_ROWS)), (compare_programs, (8, ROWS, ROWS)),
    (str, (Program(8, ROWS),)), (str, (Store(8, ROWS),)), (solve_name, (MIX, 8, (0, 5, 0, 0), 0, 77)), (str, (Polynomial(NUMBERS, 8),)), (len, (Polynomial(NUMBERS, 8),)),
]


class RepeatableTests(unittest.TestCase):
    def test_calls(self):
        for function, arguments in CALLS:
            before = copy.deepcopy(arguments)
            first = function(*arguments)
            self.assertEqual(arguments, before)
            self.assertEqual((type(function(*arguments)), function(*arguments)), (type(first), first))
            self.assertEqual(function(*before), first)

    def test_generators(self):
        for function, arguments, start in ((wrong_dividends, (7, 293, 11), 5), (each_zero, ((0, 0, 1), 64), 5)):
            one, other = function(*arguments, start=start), function(*arguments, start=start)
            found = [(next(one), next(other)) for _ in range(5)]
            self.assertTrue(all(first == second for first, second in found))

    def test_programs_of_a_paper(self):
        before = copy.deepcopy(STEPS)
        one, other = paper_programs(8, ROWS, STEPS), paper_programs(8, ROWS, STEPS)
        self.assertTrue(all(next(one) == next(other) for _ in range(4)))
        self.assertEqual(STEPS, before)

    def test_stores_answer_alike_as_long_as_they_do_not_change(self):
        store = Store(8, ROWS, OTHER_ROWS)
        store.shorten(0)
        for _ in range(2):
            self.assertEqual((store.programs, store.papers, store.actions(), store.log(), list(store.walk(WORDS))),
                             (store.programs, store.papers, store.actions(), store.log(), list(store.walk(WORDS))))

    def test_lists_are_not_modified_by_stores(self):
        batch = [("put", [ROWS]), ("step", 0, [1, [2]])]
        before = copy.deepcopy(batch)
        for call in (lambda: Store(8, batch), lambda: Store(8).put(batch), lambda: Store(8, ROWS).run(batch),
                     lambda: Store(8, ROWS).step(0, batch), lambda: Store(8, ROWS).take(batch)):
            self.assertRaises((ValueError, LookupError), call)
            self.assertEqual(batch, before)

    def test_divisors_do_not_change(self):
        one, other = Divisor(7, 8), Divisor(5, 8)
        for _ in range(2):
            self.assertEqual((str(one * other), one(100), 14 in one, str(one), str(other)),
                             ("35 at width 8", 14, True, "7 at width 8", "5 at width 8"))


if __name__ == "__main__":
    unittest.main()
