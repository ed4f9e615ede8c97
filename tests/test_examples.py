"""The document's own examples, in tests/examples.txt: sessions under the numbers of their points."""

import importlib
import pathlib
import re
import unittest

from tests.test_interface import CLASSES, FUNCTIONS

EXAMPLES = pathlib.Path(__file__).resolve().parent / "examples.txt"


def all_names():
    """All functions and classes of the interface."""
    found = {}
    for name, functions in FUNCTIONS.items():
        module = importlib.import_module(f"wordsalike.{name}")
        found.update({function: getattr(module, function) for function in functions})
    for name, title, _ in CLASSES:
        found[title] = getattr(importlib.import_module(f"wordsalike.{name}"), title)
    return found


def sessions():
    """Pairs of a row and what it gives, for all examples in order."""
    found = []
    for line in EXAMPLES.read_text().split("\n"):
        if line.startswith(">>> "):
            found.append([line[4:], ""])
        elif line and not re.fullmatch(r"\[\d+\]", line):
            found[-1][1] += line
    return found


def outcome(row, names):
    """What a row of a session gives, as a text."""
    try:
        code = compile(row, "examples", "eval")
    except SyntaxError:
        code = None
    try:
        if code is None:
            exec(row, names)
            return ""
        value = eval(code, names)
    except (ValueError, LookupError) as error:
        return f"raises {type(error).__name__}({', '.join(repr(field) for field in vars(error).values())})"
    return "" if value is None else repr(value)


class ExampleTests(unittest.TestCase):
    def test_all_examples(self):
        names = all_names()
        rows = sessions()
        self.assertGreater(len(rows), 100)
        for row, expected in rows:
            self.assertEqual(outcome(row, names).replace("'", '"'), expected.replace("'", '"'), row)

    def test_points(self):
        told = [int(number) for number in re.findall(r"^\[(\d+)\]$", EXAMPLES.read_text(), re.M)]
        self.assertEqual(told, sorted(told))
        self.assertLessEqual({5, 23, 37, 49, 50, 53, 60, 64, 67, 69, 78, 80, 92, 95}, set(told))


if __name__ == "__main__":
    unittest.main()
