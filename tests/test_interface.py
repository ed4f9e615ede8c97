"""The names that the interface lists: where they are defined, and their arguments."""

import inspect
import importlib
import unittest

FUNCTIONS = {
    "words": {"to_word": "number width", "signed_value": "word width"},
    "expressions": {
        "expression_fault": "value", "value_at": "expression width words", "names_used": "expression",
        "node_count": "expression", "with_expression": "expression name other",
    },
    "texts": {
        "format_expression": "expression", "parse_expression": "value", "format_program": "width program",
        "parse_program": "value",
    },
    "divisors": {
        "least_wrong": "divisor factor shift * kind='plain'", "right_factors": "divisor top shift * kind='plain'",
        "two_dividends": "divisor top * kind='plain'", "is_right": "divisor top value * kind='plain'",
        "least_shift": "divisor top * kind='plain'", "shift_paper": "divisor top * kind='plain'",
        "shift_paper_holds": "divisor top value * kind='plain'", "count_wrong": "divisor top factor shift",
        "wrong_dividends": "divisor factor shift * start=0", "remainder_factors": "divisor top shift",
        "told_remainder": "divisor factor shift number", "least_wrong_remainder": "divisor factor shift",
    },
    "signed": {
        "signed_factors": "divisor width shift", "told_signed": "factor shift number",
        "least_wrong_signed": "divisor factor shift", "signed_dividends": "divisor width",
        "least_signed_shift": "divisor width",
    },
    "lines": {
        "least_on_line": "count modulus factor number", "count_on_line": "count modulus factor number limit",
        "line_mask": "stretch factor number",
    },
}
MASK_METHODS = (
    "__init__", "read", "narrowest", "width", "least", "greatest", "extent", "__str__", "__eq__", "__contains__",
    "__getitem__", "member_number", "next_member", "__and__", "__or__", "__xor__", "__invert__", "__add__", "__sub__",
    "__neg__", "__lshift__", "__rshift__", "signed_right", "common_with", "union_with", "is_within",
)


class InterfaceTests(unittest.TestCase):
    def test_functions(self):
        for name, functions in FUNCTIONS.items():
            module = importlib.import_module(f"wordsalike.{name}")
            for function, arguments in functions.items():
                found = getattr(module, function)
                self.assertEqual(found.__module__, module.__name__)
                told = str(inspect.signature(found)).strip("()").replace(",", "")
                self.assertEqual(told, arguments)

    def test_mask(self):
        module = importlib.import_module("wordsalike.masks")
        self.assertEqual(module.Mask.__module__, "wordsalike.masks")
        for method in MASK_METHODS:
            self.assertIn(method, vars(module.Mask))

    def test_generators(self):
        module = importlib.import_module("wordsalike.divisors")
        self.assertTrue(inspect.isgeneratorfunction(module.wrong_dividends))


if __name__ == "__main__":
    unittest.main()
