"""[50] Inputs at which a short plain mix has a given value."""

import itertools
import unittest

from tests.helpers import Other, changed_values, odd_values, some_random
from tests.slow_mixes import all_values, extreme_input, inputs_over, random_mix
from wordsalike.bounds import SHORT
from wordsalike.errors import NotMix, TooLarge
from wordsalike.expressions import value_at
from wordsalike.masks import Mask
from wordsalike.reaching import check_input, count_inputs, find_input
from wordsalike.tables import plain_table
from wordsalike.texts import parse_expression

# Short plain mixes at all widths, many of which never have some values.
SHORT_TEXTS = ("a + b", "2 * a - 2 * b", "2 * (a & b)", "4 * (a | c) - 2 * d + 1", "0", "7", "a", "-d", "~(a ^ b)",
               "60 * a", "-60 * a", "30 * (a & b) - 30 * (c | d)", "6 * (a & ~b) + 9 * (c ^ d) - 3", "a << 5",
               "20 * a - 20 * b + 20 * (c & d) + 20 * (a & b)", "59 * (a & b) + 1", "(a & b) + (a & ~b) - a")


def signed_table(expression, width):
    """The signed words of the table of a mix, by the values at the extreme inputs."""
    found = []
    for T in range(16):
        word = -value_at(expression, width, extreme_input(width, T)) % 2 ** width
        found.append(word - 2 ** width if word >= 2 ** (width - 1) else word)
    return found


def never_holds(table, width, word, sets):
    """[50] by its words, for a value of the right form."""
    if not 2 <= len(sets) <= width + 1 or 0 not in sets[0] or sets[-1] != ():
        return False
    for at in range(len(sets) - 1):
        c = word // 2 ** at % 2
        for r, s in itertools.product(sets[at], table):
            if (r + s - c) % 2 == 0 and (r + s - c) // 2 not in sets[at + 1]:
                return False
    return all(-61 <= r <= 61 for part in sets for r in part)


class SmallTests(unittest.TestCase):
    def check(self, expression, width, names):
        """All words against all inputs; returns how many words are never reached."""
        values = all_values(expression, inputs_over(names, width), width)
        free = 2 ** (width * (4 - len(names)))
        table = signed_table(expression, width)
        missed = 0
        for word in range(2 ** width):
            count = values.count(word) * free
            self.assertEqual(count_inputs(expression, width, word), count)
            found = find_input(expression, width, word)
            self.assertIs(check_input(expression, width, word, found), True)
            self.assertEqual((type(found), len(found), found[0]), (tuple, 2, "input" if count else "never"))
            if count:
                self.assertEqual(value_at(expression, width, found[1]), word)
            else:
                missed += 1
                self.assertTrue(never_holds(table, width, word, found[1]), found)
                # The result is wrong for a word that is reached.
                reached = values[0]
                self.assertIs(check_input(expression, width, reached, found), False)
        return missed

    def test_short_mixes_of_small_widths(self):
        missed = 0
        for width, names in ((1, (0, 1, 2, 3)), (2, (0, 1, 2, 3)), (3, (0, 1, 2))):
            for text in SHORT_TEXTS:
                if len(names) == 4 or "d" not in text:
                    missed += self.check(parse_expression(text), width, names)
        self.assertGreater(missed, 40)

    def test_random_mixes_of_small_widths(self):
        rng = some_random(50)
        done = 0
        for width, names in ((1, (0, 1, 2, 3)), (2, (0, 1)), (2, (0, 2, 3)), (3, (1, 3)), (4, (0,)), (5, (2,))):
            for _ in range(20):
                expression = random_mix(rng, 6, names)
                if plain_table(expression, width) is None:
                    continue
                # At the widths to 6 each word is from -32 to 31: each plain mix is short.
                self.check(expression, width, names)
                done += 1
        self.assertGreater(done, 50)

    def test_all_inputs_of_small_widths_are_judged(self):
        for width, names in ((1, (0, 1, 2, 3)), (2, (0, 1))):
            for text in ("a + b", "2 * (a & b)", "a - b + 1"):
                expression = parse_expression(text)
                inputs = inputs_over(names, width)
                for word, words in itertools.product(range(2 ** width), inputs):
                    expected = value_at(expression, width, words) == word
                    self.assertIs(check_input(expression, width, word, ("input", words)), expected)


class ExampleTests(unittest.TestCase):
    def test_examples(self):
        self.assertIs(check_input(parse_expression("2 * (a & b)"), 8, 1, ("never", ((0,), ()))), True)
        self.assertEqual(count_inputs(parse_expression("a + b"), 2, 3), 64)
        self.assertEqual(count_inputs(parse_expression("2 * a - 2 * b"), 2, 0), 128)


class GreatTests(unittest.TestCase):
    def test_width_64(self):
        rng = some_random(51)
        kinds = set()
        for width in (7, 31, 63, 64):
            for text in SHORT_TEXTS:
                expression = parse_expression(text)
                words = [0, 1, 2 ** width - 1, 2 ** (width - 1), rng.randrange(2 ** width), rng.randrange(2 ** width)]
                words.extend(value_at(expression, width, tuple(rng.randrange(2 ** width) for _ in range(4)))
                             for _ in range(2))
                for at, word in enumerate(words):
                    found = find_input(expression, width, word)
                    self.assertIs(check_input(expression, width, word, found), True)
                    self.assertEqual(count_inputs(expression, width, word) > 0, found[0] == "input")
                    if found[0] == "input":
                        self.assertEqual(value_at(expression, width, found[1]), word)
                    else:
                        self.assertLess(at, 6)
                        self.assertTrue(never_holds(signed_table(expression, width), width, word, found[1]))
                    kinds.add((width, found[0]))
        self.assertEqual(len(kinds), 8)

    def test_counts_of_all_words_add_up(self):
        for text in SHORT_TEXTS:
            for width in (4, 7):
                counts = [count_inputs(parse_expression(text), width, word) for word in range(2 ** width)]
                self.assertEqual(sum(counts), 2 ** (4 * width))
        self.assertEqual(count_inputs(parse_expression("a"), 64, 5), 2 ** 192)
        self.assertEqual(count_inputs(parse_expression("a + b"), 64, 5), 2 ** 192)
        self.assertEqual(count_inputs(parse_expression("7"), 64, 7), 2 ** 256)
        self.assertEqual(count_inputs(parse_expression("2 * a"), 64, 7), 0)

    def test_a_paper_of_few_and_of_all_rows(self):
        for width in (1, 2, 8, 64):
            high = 2 ** (width - 1)
            # The highest bit alone cannot be reached: a paper has width + 1 sets.
            constant = parse_expression("0")
            for bit in range(width):
                found = find_input(constant, width, 2 ** bit)
                self.assertEqual((found[0], len(found[1])), ("never", bit + 2))
                self.assertIs(check_input(constant, width, 2 ** bit, found), True)
                longer = ("never", (*found[1], ()))
                self.assertIs(check_input(constant, width, 2 ** bit, longer), bit + 3 <= width + 1)
                self.assertIs(check_input(constant, width, high | 2 ** bit, found), True)
            self.assertEqual(find_input(parse_expression("1"), width, 0), ("never", ((0,), ())))

    def test_sets_may_have_more_integers(self):
        expression = parse_expression("2 * (a & b)")
        for sets, expected in ((((0,), ()), True), (((-2, 0, 2), ()), True), (((-60, 0, 60), ()), True),
                               (((0, 1), ()), False), (((0, 62), ()), False), (((-62, 0), ()), False),
                               (((-2, 2), ()), False), (((), ()), False), (((0,),), False), (((0,), (), ()), True),
                               (((0,), (5,), ()), True), (((0,), (4,), ()), False), (((0,), (1,)), False), (((2, 0), ()), False),
                               (((0, 0), ()), False), (((0,), (0, 61), ()), False)):
            self.assertIs(check_input(expression, 8, 1, ("never", sets)), expected, sets)
        # -61 goes on: the half of -61 + 0 - 1 is -31.
        self.assertIs(check_input(expression, 8, 1, ("never", ((-61, 0), ()))), False)
        self.assertIs(check_input(parse_expression("0"), 8, 1, ("never", ((-60, 0, 60), ()))), True)
        self.assertIs(check_input(parse_expression("0"), 8, 2, ("never", ((0, 61), (0,), ()))), True)
        self.assertIs(check_input(parse_expression("0"), 8, 2, ("never", ((0, 60), (0,), ()))), False)
        self.assertIs(check_input(parse_expression("0"), 8, 2, ("never", ((0, 60), (0, 30), ()))), True)
        self.assertIs(check_input(parse_expression("0"), 8, 2, ("never", ((0, 58), (0, 29), ()))), False)
        self.assertIs(check_input(parse_expression("0"), 8, 2, ("never", ((-61, 0, 61), (0,), ()))), True)
        self.assertIs(check_input(parse_expression("0"), 8, 2, ("never", ((-62, 0), (0,), ()))), False)
        self.assertIs(check_input(parse_expression("0"), 8, 2, ("never", ((0, 62), (0, 31), ()))), False)


class ValueTests(unittest.TestCase):
    def test_values_of_all_kinds(self):
        told = [(parse_expression("a + b"), 8, 5), (parse_expression("2 * (a & b)"), 8, 1),
                (parse_expression("0"), 3, 4)]
        for expression, width, word in told:
            right = find_input(expression, width, word)
            self.assertIs(check_input(expression, width, word, right), True)
            for value in [*odd_values(), Other(), Mask(4, 0, 0), ("input",), ("never",), ("input", None),
                          ("never", None), ("never", ()), ("never", [(0,), ()]), ("input", [5, 0, 0, 0]),
                          ("Never", ((0,), ())), (["never"], ((0,), ())), ("never", ((0,), []))]:
                self.assertIs(check_input(expression, width, word, value), False)
        expression = parse_expression("2 * (a & b)")
        for value in changed_values(("never", ((0,), ()))):
            allowed = value in (("never", ((0,), (), ())), ("never", ((-1, 0), ())))
            self.assertIs(check_input(expression, 8, 1, value), allowed, value)
        expression = parse_expression("a + 2 * b + 4 * c + 8 * d")
        right = find_input(expression, 8, 77)
        for value in changed_values(right):
            self.assertIs(check_input(expression, 8, 77, value), False, value)

    def test_words_and_inputs_of_other_widths(self):
        expression = parse_expression("a")
        self.assertIs(check_input(expression, 8, 255, ("input", (255, 0, 0, 0))), True)
        for words in ((256 + 255, 0, 0, 0), (-1, 0, 0, 0), (255, 256, 0, 0), (255, 0, 0), (255, 0, 0, 0, 0),
                      (255, False, 0, 0)):
            self.assertIs(check_input(expression, 8, 255, ("input", words)), False)
        self.assertIs(check_input(expression, 8, 1, ("input", (True, 0, 0, 0))), False)


class ErrorTests(unittest.TestCase):
    def check_error(self, text, width, kind, field):
        expression = parse_expression(text)
        calls = [lambda: find_input(expression, width, 0), lambda: count_inputs(expression, width, 0)]
        calls.extend((lambda value=value: check_input(expression, width, 0, value))
                     for value in (("never", ((0,), ())), ("input", (0, 0, 0, 0)), None))
        for call in calls:
            with self.assertRaises(kind) as caught:
                call()
            self.assertEqual(list(vars(caught.exception).values()), [field], text)

    def test_just_short_and_just_not(self):
        for width in (7, 8, 63, 64):
            for text, short in (("60 * a", True), ("61 * a", False), ("-60 * a", True), ("-61 * a", False),
                                ("30 * a + 30 * b", True), ("30 * a + 31 * b", False), ("60 * a + 60 * b", False),
                                ("60 * (a & b & c & d)", True), ("61 * (a & b & c & d)", False),
                                ("-30 * a - 31 * b", False), ("60", True), ("61", False), ("-60", True), ("-61", False),
                                ("60 * a - 60 * b", True), ("60 * a - 61 * b", False)):
                # At the width 7 a sum above 63 wraps round.
                table = signed_table(parse_expression(text), width)
                short = short or width == 7 and max(abs(number) for number in table) <= 60
                if short:
                    self.assertEqual(find_input(parse_expression(text), width, 0)[0] in ("input", "never"), True)
                    self.assertEqual(check_input(parse_expression(text), width, 0, None), False)
                else:
                    self.check_error(text, width, TooLarge, SHORT)
        # At lesser widths each word is short.
        for width in range(1, 7):
            self.assertEqual(find_input(parse_expression("61 * a"), width, 0)[0], "input")

    def test_not_plain(self):
        for text in ("a & 2", "a + (b & 12)", "(a & 1) * 64"):
            self.check_error(text, 8, TooLarge, SHORT)
        # At the width 1 it is plain, and short.
        self.assertEqual(find_input(parse_expression("a & 1"), 1, 1)[0], "input")

    def test_not_mix_before_too_large(self):
        for text, path in (("a * b", ()), ("100 * a + (b >> 1)", (2,)), ("(a & 2) + a / 3", (2,)),
                           ("(a < b) + 999 * c", (1,))):
            self.check_error(text, 8, NotMix, path)


if __name__ == "__main__":
    unittest.main()
