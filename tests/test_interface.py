"""The names that the interface lists: where they are defined, and their arguments."""

import inspect
import importlib
import unittest

FUNCTIONS = {
    "words": {"to_word": "number width", "signed_value": "word width"},
    "expressions": {
        "expression_fault": "value", "value_at": "expression width words", "names_used": "expression",
        "node_count": "expression", "with_expression": "expression name other",
    },
    "texts": {
        "format_expression": "expression", "parse_expression": "value", "format_program": "width program",
        "parse_program": "value",
    },
    "divisors": {
        "least_wrong": "divisor factor shift * kind='plain'", "right_factors": "divisor top shift * kind='plain'",
        "two_dividends": "divisor top * kind='plain'", "is_right": "divisor top value * kind='plain'",
        "least_shift": "divisor top * kind='plain'", "shift_paper": "divisor top * kind='plain'",
        "shift_paper_holds": "divisor top value * kind='plain'", "count_wrong": "divisor top factor shift",
        "wrong_dividends": "divisor factor shift * start=0", "remainder_factors": "divisor top shift",
        "told_remainder": "divisor factor shift number", "least_wrong_remainder": "divisor factor shift",
    },
    "signed": {
        "signed_factors": "divisor width shift", "told_signed": "factor shift number",
        "least_wrong_signed": "divisor factor shift", "signed_dividends": "divisor width",
        "least_signed_shift": "divisor width",
    },
    "divisible": {
        "opposite_of": "number width", "residue_test": "divisor width remainder", "passes_test": "test width word",
    },
    "forms": {
        "best_form": "divisor width", "form_value": "form word", "added_form": "divisor width",
    },
    "reduced": {
        "is_polynomial": "value", "polynomial_value": "numbers word width", "falling_numbers": "numbers",
        "power_numbers": "numbers", "place_bits": "place width", "place_limit": "width",
        "reduced_form": "numbers width", "reduced_powers": "numbers width", "least_degree": "numbers width",
        "polynomials_alike": "one other width", "polynomial_difference": "one other width",
        "polynomial_through": "values width", "check_through": "values width value",
    },
    "permuting": {
        "find_permutation": "numbers width", "check_permutation": "numbers width value",
        "composed_form": "one other width", "repeated_form": "numbers times width", "inverse_form": "numbers width",
        "cycle_bits": "numbers word width",
    },
    "lifting": {
        "zero_classes": "numbers width", "count_zeros": "numbers width", "each_zero": "numbers width * start=0",
        "zero_paper": "numbers width", "check_zeros": "numbers width value",
    },
    "mixes": {
        "mix_form": "expression width", "mixes_alike": "one other width", "bit_difference": "one other width",
        "least_difference": "one other width", "low_agreement": "one other width",
        "name_matters": "expression width name",
    },
    "tables": {
        "plain_table": "expression width", "set_numbers": "expression width", "mix_of_sets": "numbers width",
        "straight_numbers": "expression width", "bitwise_rows": "expression width",
    },
    "turning": {
        "turn_paper": "expression width name", "check_turning": "expression width name value",
        "solve_name": "expression width words name word",
    },
    "lines": {
        "least_on_line": "count modulus factor number", "count_on_line": "count modulus factor number limit",
        "line_mask": "stretch factor number",
    },
}
# The generators among them.
GENERATORS = {"wrong_dividends", "each_zero"}
# The methods of each class, with their arguments behind self or cls; None for a property.
CLASSES = {
    "masks": ("Mask", {
        "__init__": "width least greatest", "read": "value", "narrowest": "width words", "width": None, "least": None,
        "greatest": None, "extent": None, "__str__": "", "__eq__": "other", "__contains__": "value",
        "__getitem__": "index", "member_number": "value", "next_member": "value", "__and__": "other",
        "__or__": "other", "__xor__": "other", "__invert__": "", "__add__": "other", "__sub__": "other",
        "__neg__": "", "__lshift__": "shift", "__rshift__": "shift", "signed_right": "shift",
        "common_with": "other", "union_with": "other", "is_within": "other",
    }),
    "polynomials": ("Polynomial", {
        "__init__": "numbers width", "width": None, "rows": None, "degree": None, "inverse": "", "__add__": "other",
        "__sub__": "other", "__mul__": "other", "__neg__": "", "__rshift__": "other", "__pow__": "times",
        "__call__": "word", "__getitem__": "place", "__contains__": "word", "__len__": "", "__bool__": "",
        "__eq__": "other", "__str__": "",
    }),
    "forms": ("Divisor", {
        "__init__": "value width", "width": None, "divisor_value": None, "__call__": "value", "__contains__": "value",
        "__mul__": "other", "__eq__": "other", "__str__": "",
    }),
}


def told_arguments(function):
    return str(inspect.signature(function)).strip("()").replace(",", "")


class InterfaceTests(unittest.TestCase):
    def test_functions(self):
        for name, functions in FUNCTIONS.items():
            module = importlib.import_module(f"wordsalike.{name}")
            for function, arguments in functions.items():
                found = getattr(module, function)
                self.assertEqual(found.__module__, module.__name__)
                self.assertEqual(told_arguments(found), arguments)
                self.assertIs(inspect.isgeneratorfunction(found), function in GENERATORS)

    def test_classes(self):
        for name, (title, methods) in CLASSES.items():
            module = importlib.import_module(f"wordsalike.{name}")
            found = getattr(module, title)
            self.assertEqual(found.__module__, module.__name__)
            for method, arguments in methods.items():
                own = vars(found)[method]
                if arguments is None:
                    self.assertIsInstance(own, property)
                    self.assertIsNone(own.fset)
                else:
                    own = own.__func__ if isinstance(own, classmethod) else own
                    self.assertEqual(told_arguments(own).split()[1:], arguments.split())


if __name__ == "__main__":
    unittest.main()
