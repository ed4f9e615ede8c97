"""[10], [11] Texts of expressions."""

import itertools
import unittest

from tests.grammar import wrong_place
from tests.helpers import Other, bush, chain, odd_values, random_expression, some_random
from wordsalike.errors import ParseError, TooDeep, TooLarge
from wordsalike.expressions import expression_fault, node_count
from wordsalike.texts import format_expression, parse_expression

A, B, C, D = [("name", index) for index in range(4)]
TOP = 2 ** 64 - 1
# Each operation with names as parts, so that its parts can be replaced.
FORMS = [
    ("not", A), ("neg", A), ("add", A, A), ("sub", A, A), ("mul", A, A), ("and", A, A), ("or", A, A), ("xor", A, A),
    ("left", A, 2), ("right", A, 2), ("signed", A, 2), ("quo", A, 2), ("rem", A, 2), ("less", A, A), ("same", A, A),
    ("pick", A, A, A),
]


# The groups of [10], in their order, and the signs.
GROUPS = [("not", "neg"), ("mul", "quo", "rem"), ("add", "sub"), ("left", "right", "signed"), ("and",), ("xor",),
          ("or",), ("less", "same"), ("pick",)]
SIGNS = {"not": "~", "neg": "-", "mul": "*", "quo": "/", "rem": "mod", "add": "+", "sub": "-", "left": "<<",
         "right": ">>", "signed": ">>>", "and": "&", "xor": "^", "or": "|", "less": "<", "same": "=="}


def group_of(expression):
    found = [at for at, group in enumerate(GROUPS) if expression[0] in group]
    return found[0] if found else -1


def told_text(expression):
    """The text by the words of [10]."""
    operation, *items = expression
    if operation == "name":
        return "abcd"[items[0]]
    if operation == "number":
        return str(items[0])
    group = group_of(expression)
    texts = []
    for at, item in enumerate(items):
        if isinstance(item, int):
            texts.append(str(item))
            continue
        # A part of the same group is read without parentheses where it stands on the left, in
        # front of ~ and - and behind the ? of a pick, but nowhere in a comparison.
        same = at > 0 if operation == "pick" else at == 0 and operation not in ("less", "same")
        inside = group_of(item) > group or (group_of(item) == group and not same)
        texts.append(f"({told_text(item)})" if inside else told_text(item))
    if operation == "pick":
        return f"{texts[0]} ? {texts[1]} : {texts[2]}"
    if len(texts) == 1:
        return SIGNS[operation] + texts[0]
    return f"{texts[0]} {SIGNS[operation]} {texts[1]}"


def put(expression, place, part):
    return (*expression[:place], part, *expression[place + 1:])


def places(expression):
    return [place for place, item in enumerate(expression) if isinstance(item, tuple)]


def place_of(value):
    """The place of the ParseError, -1 if there is none."""
    try:
        parse_expression(value)
    except ParseError as error:
        return error.place
    except (TooLarge, TooDeep):
        return -1
    return -1


def without_pair(text):
    """All texts in which one pair of parentheses is left out."""
    starts, pairs = [], []
    for place, character in enumerate(text):
        if character == "(":
            starts.append(place)
        elif character == ")":
            pairs.append((starts.pop(), place))
    return [text[:start] + text[start + 1:end] + text[end + 1:] for start, end in pairs]


class FormatTests(unittest.TestCase):
    def test_examples(self):
        self.assertEqual(format_expression(("mul", ("add", A, ("number", 1)), ("neg", B))), "(a + 1) * -b")
        self.assertEqual(format_expression(("sub", A, ("sub", B, C))), "a - (b - c)")

    def test_each_operation(self):
        texts = ["~a", "-a", "a + a", "a - a", "a * a", "a & a", "a | a", "a ^ a", "a << 2", "a >> 2", "a >>> 2",
                 "a / 2", "a mod 2", "a < a", "a == a", "a ? a : a"]
        self.assertEqual([format_expression(form) for form in FORMS], texts)
        self.assertEqual([format_expression(name) for name in (A, B, C, D)], ["a", "b", "c", "d"])
        for number in (0, 1, 10, 100, 2 ** 32, TOP):
            self.assertEqual(format_expression(("number", number)), str(number))
        self.assertEqual(format_expression(("rem", D, TOP)), f"d mod {TOP}")
        self.assertEqual(format_expression(("left", D, 0)), "d << 0")

    def test_each_operation_as_each_part(self):
        for form in FORMS:
            for place in places(form):
                for part in FORMS:
                    self.check_exact(put(form, place, put(part, 1, B)))

    def test_parts_of_parts(self):
        for outer, middle, inner in itertools.product(FORMS, FORMS, FORMS):
            for first in places(outer):
                for second in (places(middle)[0], places(middle)[-1]):
                    self.check_exact(put(outer, first, put(middle, second, inner)))

    def check_exact(self, expression):
        """The text is as told, is read back, and no pair of parentheses can be left out."""
        text = format_expression(expression)
        self.assertEqual(text, told_text(expression))
        self.assertEqual(parse_expression(text), expression, text)
        for other in without_pair(text):
            try:
                self.assertNotEqual(parse_expression(other), expression, (text, other))
            except ParseError:
                pass

    def test_groups_from_both_sides(self):
        expected = {
            ("sub", ("sub", A, B), C): "a - b - c", ("add", A, ("sub", B, C)): "a + (b - c)",
            ("mul", ("quo", A, 3), B): "a / 3 * b", ("quo", ("mul", A, B), 3): "a * b / 3",
            ("mul", A, ("quo", B, 3)): "a * (b / 3)", ("rem", ("rem", A, 9), 4): "a mod 9 mod 4",
            ("left", ("right", A, 1), 2): "a >> 1 << 2", ("and", ("and", A, B), C): "a & b & c",
            ("and", A, ("and", B, C)): "a & (b & c)", ("xor", ("or", A, B), C): "(a | b) ^ c",
            ("or", ("xor", A, B), ("and", C, D)): "a ^ b | c & d", ("less", ("less", A, B), C): "(a < b) < c",
            ("same", A, ("less", B, C)): "a == (b < c)", ("not", ("neg", ("not", A))): "~-~a",
            ("neg", ("neg", A)): "--a", ("sub", A, ("neg", B)): "a - -b", ("neg", ("sub", A, B)): "-(a - b)",
            ("pick", A, ("pick", B, C, D), ("pick", D, C, B)): "a ? b ? c : d : d ? c : b",
            ("pick", ("pick", A, B, C), D, A): "(a ? b : c) ? d : a", ("add", A, ("pick", A, B, C)): "a + (a ? b : c)",
            ("left", ("add", A, B), 2): "a + b << 2", ("add", A, ("left", B, 2)): "a + (b << 2)",
            ("neg", ("number", 3)): "-3", ("pick", ("less", A, B), ("add", A, B), ("or", A, B)): "a < b ? a + b : a | b",
        }
        for expression, text in expected.items():
            self.assertEqual(format_expression(expression), text)
            self.assertEqual(parse_expression(text), expression)

    def test_random_expressions(self):
        rng = some_random(10)
        for _ in range(400):
            expression = random_expression(rng, rng.randrange(1, 40))
            if expression_fault(expression) is None:
                self.check_exact(expression)

    def test_at_the_limits(self):
        for expression in (bush(200), chain(40)):
            self.assertEqual(parse_expression(format_expression(expression)), expression)
        self.assertEqual(format_expression(chain(40)), "~" * 39 + "a")


class ParseTests(unittest.TestCase):
    def test_examples(self):
        self.assertEqual(parse_expression("a + 3 * b"), ("add", A, ("mul", ("number", 3), B)))
        self.assertEqual(parse_expression("~(a) << 2"), ("left", ("not", A), 2))
        self.assertEqual(place_of("a < b < c"), 7)
        self.assertEqual(place_of("a << 2 * b"), 7)
        self.assertEqual(place_of("a << 2 + b"), 7)

    def test_values_that_are_no_texts(self):
        for value in [*odd_values(), Other(), ("name", 0), 5]:
            if not isinstance(value, str):
                self.assertIsNone(place_of(value))
                with self.assertRaises(ParseError):
                    parse_expression(value)

    def test_spaces(self):
        rng = some_random(11)
        for _ in range(200):
            expression = random_expression(rng, rng.randrange(1, 25))
            if expression_fault(expression) is not None:
                continue
            text = format_expression(expression)
            self.assertEqual(parse_expression(text.replace(" ", "")), expression)
            self.assertEqual(parse_expression(text.replace(" ", "   ")), expression)
            self.assertEqual(parse_expression(f"   {text}  "), expression)
        self.assertEqual(parse_expression("amod5"), ("rem", A, 5))
        self.assertEqual(parse_expression("7mod5mod4"), ("rem", ("rem", ("number", 7), 5), 4))
        self.assertEqual(parse_expression("dmod 5"), ("rem", D, 5))
        self.assertEqual(parse_expression("- - a--b"), ("sub", ("neg", ("neg", A)), ("neg", B)))
        self.assertEqual(parse_expression("a<b<<2"), ("less", A, ("left", B, 2)))
        for text, place in (("1 2", 2), ("a m od 2", 3), ("a mo d 2", 4), ("a < < 2", 4), ("a > > 2", 3),
                            ("a >> > 2", 5), ("a = = b", 3), ("a /1 0", 5), ("a\t+ b", 1), ("a +\nb", 3)):
            self.assertEqual(place_of(text), place, text)

    def test_parentheses(self):
        self.assertEqual(parse_expression("((((a))+((b))))"), ("add", A, B))
        self.assertEqual(parse_expression("( ~ ( (a) ) )<<2"), ("left", ("not", A), 2))
        self.assertEqual(parse_expression("(a)?(b):(c)"), ("pick", A, B, C))
        for deep in (80, 81, 1500):
            self.assertEqual(parse_expression("(" * deep + "a" + ")" * deep), A)
            self.assertEqual(place_of("(" * deep + "a" + ")" * (deep - 1)), 2 * deep)
            self.assertEqual(place_of("(" * deep + "a" + ")" * (deep + 1)), 2 * deep + 1)
            self.assertEqual(place_of("(" * deep), deep)
        deep = "~(" * 39 + "a" + ")" * 39
        self.assertEqual(parse_expression("(" * 41 + deep + ")" * 41), chain(40))
        for text, place in (("a << (2)", 5), ("a / (2)", 4), ("()", 1), (")", 0), ("a)", 1), ("(a ? b)", 6),
                            ("a ? (b : c)", 7), ("a ? b : c)", 9), ("a (b)", 2), ("(a) b", 4), ("a(", 1)):
            self.assertEqual(place_of(text), place, text)

    def test_numbers(self):
        self.assertEqual(parse_expression(str(TOP)), ("number", TOP))
        self.assertEqual(parse_expression("0"), ("number", 0))
        self.assertEqual(parse_expression(f"a / {TOP}"), ("quo", A, TOP))
        self.assertEqual(parse_expression("a >>> 63"), ("signed", A, 63))
        self.assertEqual(parse_expression("a << 0"), ("left", A, 0))
        for text, place in ((str(TOP + 1), 19), (str(TOP) + "0", 20), ("9" * 4000, 19), ("2" + "0" * 19, 19),
                            ("00", 1), ("01", 1), ("a + 007", 5), ("a / 0", 4), ("a mod 0", 6), ("a / 00", 4),
                            ("a / 05", 4), (f"a mod {TOP + 1}", 25), ("a << 64", 6), ("a << 063", 6), ("a >> 630", 7),
                            ("a >>> 100", 8), ("a << -1", 5), ("a / b", 4), ("a << b", 5), ("a / -1", 4), ("1a", 1),
                            ("\u0661", 0), ("1\u00b2", 1), ("a << \u0661", 5)):
            self.assertEqual(place_of(text), place, text)

    def test_texts_that_end_too_early(self):
        for text in ("", "   ", "a +", "a + ", "~", "-(", "(a", "(a ", "a ?", "a ? b", "a ? b :", "a ? b ? c : d",
                     "a <", "a < b <", "a >", "a >>", "a >>> ", "a =", "a ==", "a m", "a mo", "a mod", "a mod ",
                     "a /", "a <<", "(" * 80):
            self.assertEqual(place_of(text), len(text), text)

    def test_wrong_signs(self):
        for text, place in (("e", 0), ("A", 0), ("a % 2", 2), ("a b", 2), ("ab", 1), ("a + + b", 4), ("a ~ b", 2),
                            ("a < b == c", 6), ("a == b < c", 8), ("a == b == c", 7), ("a < b > c", 7), ("a > b", 3),
                            ("a >>>> 2", 5), ("a mud 2", 3), ("a : b", 2), ("a ? b : c : d", 10), ("a ? : b", 4),
                            ("a & & b", 4), ("a && b", 3), ("a << 2 - b", 7), ("a << 2 / 3", 7), ("a >> 2 mod 3", 7),
                            ("a & b << 2 * c", 11), ("a * b << 1 + 1", 11), ("* a", 0), ("a << 2 3", 7),
                            ("a ? b < c < d : a", 11), ("(a < b < c)", 8), ("a < b ? c < d < a : b", 15),
                            ("a\u00e9", 1), ("\n", 0)):
            self.assertEqual(place_of(text), place, text)

    def test_comparisons_in_other_places(self):
        self.assertEqual(parse_expression("a < b ? c < d : d == a"),
                         ("pick", ("less", A, B), ("less", C, D), ("same", D, A)))
        self.assertEqual(parse_expression("(a < b) == (c < d)"), ("same", ("less", A, B), ("less", C, D)))
        self.assertEqual(parse_expression("a | b < c << 2 & d"),
                         ("less", ("or", A, B), ("and", ("left", C, 2), D)))
        self.assertEqual(parse_expression("a ? b : c ? d : a"), ("pick", A, B, ("pick", C, D, A)))
        self.assertEqual(parse_expression("a ? b ? c : d : a"), ("pick", A, ("pick", B, C, D), A))
        self.assertEqual(parse_expression("a ? b ? c : d ? a : b : c"),
                         ("pick", A, ("pick", B, C, ("pick", D, A, B)), C))

    def test_short_texts_as_the_grammar_has_them(self):
        for size in range(5):
            for signs in itertools.product("a1<>=?:(m ", repeat=size):
                self.check_place("".join(signs))

    def test_longer_texts_as_the_grammar_has_them(self):
        rng = some_random(12)
        tokens = ["a", "b", "0", "1", "3", "64", str(TOP), "(", ")", "~", "-", "+", "*", "/", " mod ", "mod", "<<",
                  ">>", ">>>", "<", "==", "&", "^", "|", "?", ":", " ", "  ", "m", "=", ">", "x"]
        for _ in range(1500):
            text = ""
            for _ in range(rng.randrange(1, 20)):
                longer = text + rng.choice(tokens)
                if place_of(longer) in (-1, len(longer)) or rng.random() < 0.05:
                    text = longer
            self.check_place(text)

    def check_place(self, text):
        place = wrong_place(text)
        self.assertEqual(place_of(text), -1 if place is None else place, text)

    def limit_of(self, kind, text):
        with self.assertRaises(kind) as caught:
            parse_expression(text)
        return caught.exception.limit

    def flat(self, nodes):
        """The text of a shallow expression with so many nodes."""
        return format_expression(bush(nodes))

    def test_too_large(self):
        self.assertEqual(parse_expression(self.flat(200)), bush(200))
        for nodes in (201, 202, 900):
            self.assertEqual(self.limit_of(TooLarge, self.flat(nodes)), 200)
        self.assertEqual(self.limit_of(TooLarge, "~" * 3999 + "a"), 200)
        self.assertEqual(self.limit_of(TooLarge, "a+" * 1999 + "a"), 200)
        self.assertEqual(self.limit_of(TooLarge, "a?b:" * 999 + "a"), 200)
        self.assertEqual(self.limit_of(TooLarge, "a" + "<<1" * 1333), 200)

    def test_too_large_by_each_sign(self):
        # Each text has 200 nodes, with one more node behind it 201; what is in parentheses is flat.
        for sign, many in (("~", 161), (">>1", 161), ("mod 3", 161), ("&b", 80), ("?b:c", 53)):
            per_group, more = divmod(many, 20)
            groups = [sign * count + "a" if sign == "~" else "a" + sign * count
                      for count in [per_group + 1] * more + [per_group] * (20 - more)]
            nodes = 39 + sum({"~": 1, ">>1": 1, "mod 3": 1, "&b": 2, "?b:c": 3}[sign] for _ in range(many))
            text = "+".join(f"({group})" for group in groups)
            while nodes < 200:
                text = f"~({text})"
                nodes += 1
            self.assertEqual(node_count(parse_expression(text)), 200)
            self.assertEqual(self.limit_of(TooLarge, f"-({text})"), 200)

    def test_too_deep(self):
        self.assertEqual(parse_expression("~" * 39 + "a"), chain(40))
        self.assertEqual(self.limit_of(TooDeep, "~" * 40 + "a"), 40)
        self.assertEqual(self.limit_of(TooDeep, "-" * 199 + "a"), 40)
        self.assertEqual(self.limit_of(TooLarge, "-" * 200 + "a"), 200)
        self.assertEqual(self.limit_of(TooDeep, "a" + " >> 1" * 40), 40)
        self.assertEqual(parse_expression("a" + " >> 1" * 39)[0], "right")
        self.assertEqual(self.limit_of(TooDeep, "a+" * 40 + "a"), 40)
        self.assertEqual(parse_expression("a+" * 39 + "a")[0], "add")

    def test_a_wrong_character_comes_first(self):
        self.assertEqual(place_of("~" * 300 + "a" + "e"), 301)
        self.assertEqual(place_of("~" * 300), 300)
        text = self.flat(900)
        self.assertEqual(place_of(text + " $"), len(text) + 1)
        self.assertEqual(place_of("a+" * 1000), 2000)


if __name__ == "__main__":
    unittest.main()
