"""[93] Texts of programs, with rows and programs as [68] and [69] tell."""

import unittest

from tests.helpers import Other, odd_values, some_random
from wordsalike.errors import ParseError
from wordsalike.rows import is_outs, is_row
from wordsalike.texts import format_program, parse_program

N = ((("neg", 0),), (4,))


def line_of(value):
    """The number of the line that is not right, -1 if all are."""
    try:
        parse_program(value)
    except ParseError as error:
        return error.place
    return -1


def all_rows(width):
    """A row of each kind at a width, with numbers at both ends of their bounds; all take inputs."""
    top = 2 ** width - 1
    rows = [("number", 0), ("number", top), ("not", 0), ("neg", 3)]
    for operation in ("left", "right", "signed"):
        rows.extend([(operation, 1, 0), (operation, 2, width - 1)])
    for operation in ("quo", "rem"):
        rows.extend([(operation, 1, 1), (operation, 2, top)])
    rows.extend([("scale", 0, 0, 0, 0), ("scale", 1, top, top, 2 * width)])
    for operation in ("add", "sub", "mul", "and", "or", "xor", "less", "same"):
        rows.append((operation, 3, 1))
    rows.append(("pick", 2, 0, 3))
    return rows


def random_program(rng, width, count):
    rows = []
    for at in range(count):
        row = rng.choice(all_rows(width))
        values = {"number": 0, "pick": 3}.get(row[0], 2 if len(row) == 3 and row[0] in
                                              ("add", "sub", "mul", "and", "or", "xor", "less", "same") else 1)
        operands = [rng.randrange(4 + at) for _ in range(values)]
        rows.append((row[0], *operands, *row[1 + values:]))
    outs = tuple(rng.randrange(4 + count) for _ in range(rng.randrange(1, 5)))
    return (tuple(rows), outs)


class RowTests(unittest.TestCase):
    def test_values_of_all_kinds(self):
        for value in [*odd_values(), Other(), 5]:
            self.assertFalse(is_row(value, 64, 4))
            self.assertFalse(is_row((value,), 64, 4))
            self.assertFalse(is_row(("neg", [value]), 64, 4))
            self.assertFalse(is_row(["neg", 0], 64, 4))
            self.assertFalse(is_outs(([value],), 4))
            self.assertFalse(is_outs([0], 4))
            self.assertFalse(is_outs(value, 1))
        self.assertFalse(is_row(("neg", True), 64, 4) or is_row(("number", True), 64, 4) or is_outs((True,), 4))
        self.assertTrue(is_row(("neg", 3), 64, 4) and is_row(("neg", 4), 64, 5) and is_outs((3, 3), 4))


class ProgramTextTests(unittest.TestCase):
    def test_examples(self):
        self.assertEqual(format_program(8, N), "width 8\nneg 0\nout 4\n")
        self.assertEqual(parse_program("width 3\nout 2 2\n"), (3, ((), (2, 2))))

    def test_form(self):
        program = ((("number", 18446744073709551615), ("scale", 4, 10, 0, 128), ("pick", 5, 4, 0)), (6, 0, 6, 3))
        text = "width 64\nnumber 18446744073709551615\nscale 4 10 0 128\npick 5 4 0\nout 6 0 6 3\n"
        self.assertEqual(format_program(64, program), text)
        self.assertEqual(parse_program(text), (64, program))

    def test_both_ways(self):
        rng = some_random(93)
        for width in (1, 2, 8, 33, 63, 64):
            for count in (0, 1, 2, 10, 59, 60):
                program = random_program(rng, width, count)
                text = format_program(width, program)
                self.assertEqual(text.count("\n"), count + 2)
                self.assertEqual(parse_program(text), (width, program))

    def test_each_row(self):
        for width in (1, 2, 7, 64):
            for row in all_rows(width):
                program = ((row,), (0,))
                self.assertEqual(parse_program(format_program(width, program)), (width, program))

    def test_rows_that_are_not_right(self):
        for width in (1, 2, 7, 64):
            top = 2 ** width - 1
            wrong = [
                ("number", top + 1), ("number",), ("number", 0, 0), ("not",), ("not", 4), ("not", 0, 0), ("neg", 5),
                ("left", 0, width), ("right", 0, width), ("signed", 0, width), ("left", 4, 0), ("left", 0),
                ("left", 0, 0, 0), ("quo", 0, 0), ("rem", 0, 0), ("quo", 0, top + 1), ("rem", 0, top + 1),
                ("quo", 4, 1), ("scale", 0, top + 1, 0, 0), ("scale", 0, 0, top + 1, 0), ("scale", 0, 0, 0, 2 * width + 1),
                ("scale", 4, 0, 0, 0), ("scale", 0, 0, 0), ("add", 0), ("add", 0, 4), ("add", 4, 0), ("add", 0, 0, 0),
                ("pick", 0, 0), ("pick", 0, 0, 4), ("pick", 4, 0, 0), ("name", 0), ("Add", 0, 0), ("out",), ("out", 4),
                ("out", 0, 0, 0, 0, 0), ("width", width), ("",), ("number", 10 ** 30), ("number", 10 ** 3000),
            ]
            for row in wrong:
                line = " ".join(str(item) for item in row)
                self.assertEqual(line_of(f"width {width}\n{line}\nout 0\n"), 1, (width, row))
                self.assertEqual(line_of(f"width {width}\nnot 0\n{line.replace('4', '5')}\nout 0\n"), 2, (width, row))

    def test_forms_of_lines(self):
        for line in (" neg 0", "neg  0", "neg 0 ", "neg\t0", "neg 00", "neg 01", "neg +0", "neg -0", "neg 0\r", "neg a",
                     "neg 0x0", "neg \u0660", "neg \u00b2", "neg 0_0", "NEG 0", "neg,0", "neg 0.0", "", " ", "neg", "0",
                     "out 0 ", "out  0", " out 0", "out 00", "out -1", "Out 0", "out", "out a"):
            self.assertEqual(line_of(f"width 8\n{line}\nout 0\n"), 1, repr(line))

    def test_first_line(self):
        for line in ("width 0", "width 65", "width -1", "width 08", "width 8 8", "width", "width ", "width  8", " width 8",
                     "width 8 ", "Width 8", "8", "", "neg 0", "out 0", "width 1000", "width 8\r", "width eight"):
            self.assertEqual(line_of(f"{line}\nout 0\n"), 0, repr(line))
        for width in (1, 64):
            self.assertEqual(parse_program(f"width {width}\nout 3\n"), (width, ((), (3,))))

    def test_lines_that_lack(self):
        self.assertEqual(line_of(""), 0)
        self.assertEqual(line_of("width 8"), 0)
        self.assertEqual(line_of("width 8\n"), 1)
        self.assertEqual(line_of("width 8\nneg 0\n"), 2)
        self.assertEqual(line_of("width 8\nneg 0"), 1)
        self.assertEqual(line_of("width 8\nneg 0\nout 4"), 2)
        self.assertEqual(line_of("neg 0\nout 4\n"), 0)
        self.assertEqual(line_of("width 8\nadd 4 0\nout 5\n"), 1)
        self.assertEqual(line_of("width 8\nneg 0\nout 5\n"), 2)

    def test_lines_that_are_too_many(self):
        text = format_program(8, N)
        self.assertEqual(line_of(text + "\n"), 3)
        self.assertEqual(line_of(text + "x"), 3)
        self.assertEqual(line_of(text + " "), 3)
        self.assertEqual(line_of(text + "out 4\n"), 3)
        self.assertEqual(line_of(text + "neg 0"), 3)
        self.assertEqual(line_of(text + text), 3)
        self.assertEqual(line_of("width 8\n" + text), 1)
        self.assertEqual(line_of("\n" + text), 0)
        self.assertEqual(line_of("width 8\nneg 0\n\nout 4\n"), 2)

    def test_sixty_rows(self):
        for width in (1, 64):
            sixty = f"width {width}\n" + "neg 0\n" * 60
            self.assertEqual(len(parse_program(sixty + "out 63\n")[1][0]), 60)
            self.assertEqual(line_of(sixty + "out 64\n"), 61)
            self.assertEqual(line_of(sixty + "neg 0\nout 63\n"), 61)
            self.assertEqual(line_of(sixty), 61)
            self.assertEqual(line_of(sixty + "neg 0\n" * 400), 61)

    def test_changed_lines(self):
        rng = some_random(94)
        program = random_program(rng, 64, 60)
        lines = format_program(64, program).split("\n")[:-1]
        for at in range(62):
            changed = [*lines[:at], lines[at] + " 0", *lines[at + 1:]]
            self.assertEqual(line_of("\n".join(changed) + "\n"), at if at < 61 or len(program[1]) == 4 else -1)
            changed = [*lines[:at], lines[at].replace(" ", "  ", 1), *lines[at + 1:]]
            self.assertEqual(line_of("\n".join(changed) + "\n"), at)

    def test_outs(self):
        self.assertEqual(parse_program("width 8\nout 0 1 2 3\n"), (8, ((), (0, 1, 2, 3))))
        self.assertEqual(line_of("width 8\nout 0 1 2 3 0\n"), 1)
        self.assertEqual(line_of("width 8\nout 4\n"), 1)
        self.assertEqual(line_of("width 8\nnot 0\nout 0 5\n"), 2)

    def test_values_that_are_no_texts(self):
        for value in [*odd_values(), Other(), N, (8, N)]:
            if not isinstance(value, str):
                with self.assertRaises(ParseError) as caught:
                    parse_program(value)
                self.assertIsNone(caught.exception.place)
        for value in odd_values():
            if isinstance(value, str):
                self.assertEqual(line_of(value), 0)


if __name__ == "__main__":
    unittest.main()
