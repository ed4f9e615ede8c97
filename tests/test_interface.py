"""The names that the interface lists: where they are defined, and their arguments."""

import inspect
import importlib
import unittest

FUNCTIONS = {
    "words": {"to_word": "number width", "signed_value": "word width"},
    "expressions": {
        "expression_fault": "value", "value_at": "expression width words", "names_used": "expression",
        "node_count": "expression", "with_expression": "expression name other",
    },
    "texts": {
        "format_expression": "expression", "parse_expression": "value", "format_program": "width program",
        "parse_program": "value",
    },
    "divisors": {
        "least_wrong": "divisor factor shift * kind='plain'", "right_factors": "divisor top shift * kind='plain'",
        "two_dividends": "divisor top * kind='plain'", "is_right": "divisor top value * kind='plain'",
        "least_shift": "divisor top * kind='plain'", "shift_paper": "divisor top * kind='plain'",
        "shift_paper_holds": "divisor top value * kind='plain'", "count_wrong": "divisor top factor shift",
        "wrong_dividends": "divisor factor shift * start=0", "remainder_factors": "divisor top shift",
        "told_remainder": "divisor factor shift number", "least_wrong_remainder": "divisor factor shift",
    },
    "signed": {
        "signed_factors": "divisor width shift", "told_signed": "factor shift number",
        "least_wrong_signed": "divisor factor shift", "signed_dividends": "divisor width",
        "least_signed_shift": "divisor width",
    },
    "divisible": {
        "opposite_of": "number width", "residue_test": "divisor width remainder", "passes_test": "test width word",
    },
    "forms": {
        "best_form": "divisor width", "form_value": "form word", "added_form": "divisor width",
    },
    "reduced": {
        "is_polynomial": "value", "polynomial_value": "numbers word width", "falling_numbers": "numbers",
        "power_numbers": "numbers", "place_bits": "place width", "place_limit": "width",
        "reduced_form": "numbers width", "reduced_powers": "numbers width", "least_degree": "numbers width",
        "polynomials_alike": "one other width", "polynomial_difference": "one other width",
        "polynomial_through": "values width", "check_through": "values width value",
    },
    "permuting": {
        "find_permutation": "numbers width", "check_permutation": "numbers width value",
        "composed_form": "one other width", "repeated_form": "numbers times width", "inverse_form": "numbers width",
        "cycle_bits": "numbers word width",
    },
    "lifting": {
        "zero_classes": "numbers width", "count_zeros": "numbers width", "each_zero": "numbers width * start=0",
        "zero_paper": "numbers width", "check_zeros": "numbers width value",
    },
    "mixes": {
        "mix_form": "expression width", "mixes_alike": "one other width", "bit_difference": "one other width",
        "least_difference": "one other width", "low_agreement": "one other width",
        "name_matters": "expression width name",
    },
    "tables": {
        "plain_table": "expression width", "set_numbers": "expression width", "mix_of_sets": "numbers width",
        "straight_numbers": "expression width", "bitwise_rows": "expression width",
    },
    "turning": {
        "turn_paper": "expression width name", "check_turning": "expression width name value",
        "solve_name": "expression width words name word",
    },
    "reaching": {
        "find_input": "expression width word", "check_input": "expression width word value",
        "count_inputs": "expression width word",
    },
    "sums": {
        "sum_mask": "terms number", "sum_paper": "terms number", "sum_paper_holds": "terms number mask value",
    },
    "stretches": {"scaled_stretch": "stretch factor number"},
    "comparing": {
        "mask_around": "stretch", "stretch_around": "mask", "find_verdict": "word one other",
        "check_verdict": "word one other value",
    },
    "programs": {
        "program_fault": "width value", "run_program": "width program words", "all_values": "width program words",
        "class_numbers": "program other", "check_classes": "program other value", "folded_program": "program",
        "program_of": "width expression",
    },
    "papers": {
        "after_step": "width program value", "check_paper": "width program value other",
        "paper_programs": "width program paper", "turned_paper": "width program paper",
    },
    "passes": {
        "short_program": "width program", "short_paper": "width program", "compare_programs": "width program other",
    },
    "lines": {
        "least_on_line": "count modulus factor number", "count_on_line": "count modulus factor number limit",
        "line_mask": "stretch factor number",
    },
}
# The generators among them.
GENERATORS = {"wrong_dividends", "each_zero", "paper_programs", "walk"}
# The methods of each class, with their arguments behind self or cls; None for a property.
CLASSES = [
    ("masks", "Mask", {
        "__init__": "width least greatest", "read": "value", "narrowest": "width words", "width": None, "least": None,
        "greatest": None, "extent": None, "__str__": "", "__eq__": "other", "__contains__": "value",
        "__getitem__": "index", "member_number": "value", "next_member": "value", "__and__": "other",
        "__or__": "other", "__xor__": "other", "__invert__": "", "__add__": "other", "__sub__": "other",
        "__neg__": "", "__lshift__": "shift", "__rshift__": "shift", "signed_right": "shift",
        "common_with": "other", "union_with": "other", "is_within": "other",
    }),
    ("polynomials", "Polynomial", {
        "__init__": "numbers width", "width": None, "rows": None, "degree": None, "inverse": "", "__add__": "other",
        "__sub__": "other", "__mul__": "other", "__neg__": "", "__rshift__": "other", "__pow__": "times",
        "__call__": "word", "__getitem__": "place", "__contains__": "word", "__len__": "", "__bool__": "",
        "__eq__": "other", "__str__": "",
    }),
    ("forms", "Divisor", {
        "__init__": "value width", "width": None, "divisor_value": None, "__call__": "value", "__contains__": "value",
        "__mul__": "other", "__eq__": "other", "__str__": "",
    }),
    ("mixing", "Mix", {
        "__init__": "expression width", "read": "value width", "width": None, "first": None, "rows": None,
        "__add__": "other", "__sub__": "other", "__and__": "other", "__or__": "other", "__xor__": "other",
        "__mul__": "number", "__lshift__": "amount", "__neg__": "", "__invert__": "", "__call__": "a b c d",
        "__getitem__": "pattern", "__contains__": "name", "__len__": "", "__bool__": "", "__eq__": "other", "__str__": "",
    }),
    ("stretches", "Stretch", {
        "__init__": "width first count", "narrowest": "width words", "width": None, "first": None, "last": None,
        "extent": None, "least": None, "greatest": None, "__str__": "", "__eq__": "other", "__contains__": "value",
        "__getitem__": "index", "__add__": "other", "__sub__": "other", "__neg__": "", "__invert__": "",
        "common_with": "other", "union_with": "other",
    }),
    ("programs", "Program", {
        "__init__": "width value", "width": None, "rows": None, "last": None, "__call__": "words", "__rshift__": "other",
        "__contains__": "value", "shortened": "", "__len__": "", "__eq__": "other", "__str__": "",
    }),
    ("stores", "Store", {
        "__init__": "width *programs", "put": "program", "take": "index", "chain": "index other", "step": "index value",
        "shorten": "index", "undo": "", "run": "batch * on_step=None", "log": "", "width": None, "programs": None,
        "papers": None, "row_count": None, "actions": "", "state_at": "step", "walk": "words", "read": "value",
        "blank": "width", "size_of": "name", "copy": "", "__len__": "", "__eq__": "other", "__str__": "",
    }),
    ("stores", "ShortStore", {"__init__": "width *programs most=None"}),
    ("consoles", "Console", {"__init__": "store", "execute": "line", "transcript": ""}),
]


def told_arguments(function):
    return str(inspect.signature(function)).strip("()").replace(",", "")


class InterfaceTests(unittest.TestCase):
    def test_functions(self):
        for name, functions in FUNCTIONS.items():
            module = importlib.import_module(f"wordsalike.{name}")
            for function, arguments in functions.items():
                found = getattr(module, function)
                self.assertEqual(found.__module__, module.__name__)
                self.assertEqual(told_arguments(found), arguments)
                self.assertIs(inspect.isgeneratorfunction(found), function in GENERATORS)

    def test_classes(self):
        for name, title, methods in CLASSES:
            module = importlib.import_module(f"wordsalike.{name}")
            found = getattr(module, title)
            self.assertEqual(found.__module__, module.__name__)
            for method, arguments in methods.items():
                own = vars(found)[method]
                if arguments is None:
                    self.assertIsInstance(own, property)
                    self.assertIsNone(own.fset)
                elif isinstance(own, staticmethod):
                    self.assertEqual(told_arguments(own.__func__), arguments)
                else:
                    own = own.__func__ if isinstance(own, classmethod) else own
                    self.assertEqual(told_arguments(own).split()[1:], arguments.split())
                    self.assertIs(inspect.isgeneratorfunction(own), method in GENERATORS)

    def test_kinds_of_methods(self):
        for name, title, methods in (("mixing", "Mix", ("read",)), ("masks", "Mask", ("read", "narrowest")),
                                     ("stretches", "Stretch", ("narrowest",)), ("stores", "Store", ("read", "blank"))):
            found = getattr(importlib.import_module(f"wordsalike.{name}"), title)
            self.assertTrue(all(isinstance(vars(found)[method], classmethod) for method in methods))
        stores = importlib.import_module("wordsalike.stores")
        self.assertIsInstance(vars(stores.Store)["size_of"], staticmethod)
        self.assertEqual((stores.ShortStore.__bases__, vars(stores.Store)["LIMIT"]), ((stores.Store,), 60))

    def test_limits(self):
        bounds = importlib.import_module("wordsalike.bounds")
        told = {"SHORT": 60, "WIDTH": 64, "NODES": 200, "DEPTH": 40, "ROWS": 60, "WIDE": 200, "STEPS": 1000, "SLOTS": 10,
                "BATCH": 20, "FACTORS": 255}
        self.assertEqual({name: getattr(bounds, name) for name in told}, told)


if __name__ == "__main__":
    unittest.main()
