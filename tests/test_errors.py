"""[3] The error classes: their fields and their bases."""

import unittest

from wordsalike import errors

WORD_ERRORS = {
    "TooLarge": "limit", "TooDeep": "limit", "ParseError": "place", "Even": "number", "NoDivisor": "value",
    "BadWord": "value", "UnequalWidths": None, "NotPermutation": "value", "BadPolynomial": "value",
    "BadWidth": "value", "NotMix": "path", "NotBitwise": "index", "NotReversible": "name", "BadMask": "bits",
    "BadCount": "number", "BadShift": "shift", "NotInside": "value", "BadProgram": "fault", "BadStep": "reason",
    "UnlikePrograms": None, "BadInput": None, "TooMany": "limit", "TooManyActions": None, "Busy": None,
    "NothingToUndo": None, "InvalidBatch": None, "BatchFailed": "index", "TooLong": "size",
}
LOOKUP_ERRORS = {"NoSuchIndex": "index", "NoSuchPattern": "pattern", "NoSuchProgram": "index", "NoSuchStep": "number"}
VALUES = [0, -(10 ** 399), None, True, "a text", (1, "node"), [1, [2]], {"a": 1}]


class ErrorTests(unittest.TestCase):
    def test_bases(self):
        self.assertEqual(errors.WordError.__bases__, (ValueError,))
        for name in WORD_ERRORS:
            self.assertEqual(getattr(errors, name).__bases__, (errors.WordError,), name)
        for name in LOOKUP_ERRORS:
            self.assertEqual(getattr(errors, name).__bases__, (LookupError,), name)

    def test_all_are_told(self):
        classes = {name for name, thing in vars(errors).items() if isinstance(thing, type)}
        self.assertEqual(classes, {"WordError", *WORD_ERRORS, *LOOKUP_ERRORS})

    def test_fields_are_kept_unchanged(self):
        for name, field in {**WORD_ERRORS, **LOOKUP_ERRORS}.items():
            kind = getattr(errors, name)
            self.assertEqual(kind.__module__, "wordsalike.errors")
            if field is None:
                self.assertEqual(vars(kind()), {})
                continue
            for value in VALUES:
                self.assertEqual(list(vars(kind(value))), [field])
                self.assertIs(getattr(kind(value), field), value)
            self.assertRaises(TypeError, kind)
            self.assertRaises(TypeError, kind, 1, 2)

    def test_raised_and_caught_by_name(self):
        for name, field in {**WORD_ERRORS, **LOOKUP_ERRORS}.items():
            kind = getattr(errors, name)
            fields = () if field is None else (7,)
            with self.assertRaises(kind) as caught:
                raise kind(*fields)
            self.assertIs(caught.exception.__class__, kind)
            self.assertIsInstance(str(caught.exception), str)


if __name__ == "__main__":
    unittest.main()
