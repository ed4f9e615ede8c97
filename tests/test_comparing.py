"""[66], [67] Masks and stretches against one another, and verdicts."""

import itertools
import unittest

from tests.helpers import Other, changed_values, narrowest_text, odd_values, some_random
from wordsalike.comparing import check_verdict, find_verdict, mask_around, stretch_around
from wordsalike.errors import UnequalWidths
from wordsalike.masks import Mask
from wordsalike.stretches import Stretch

TOP = 2 ** 64 - 1
WORDS = ("less", "same", "signed")


def all_masks(width):
    return [Mask.read("".join(signs)) for signs in itertools.product("01?", repeat=width)]


def all_stretches(width):
    power = 2 ** width
    found = [Stretch(width, first, count) for first in range(power) for count in range(1, power)]
    return [*found, Stretch(width, 0, power)]


def words_in(part):
    return [word for word in range(2 ** part.width) if word in part]


def slow_holds(word, width, x, y):
    if word == "signed":
        x, y = [value - 2 ** width if value >= 2 ** (width - 1) else value for value in (x, y)]
    return x == y if word == "same" else x < y


def slow_kind(word, one, other):
    found = {slow_holds(word, one.width, x, y) for x in words_in(one) for y in words_in(other)}
    return "sometimes" if len(found) == 2 else "always" if found == {True} else "never"


class AroundTests(unittest.TestCase):
    def test_examples(self):
        self.assertEqual(str(mask_around(Stretch(4, 5, 2))), "01??")
        self.assertEqual(str(stretch_around(Mask.read("1?0?"))), "8..13 at 4 bits")

    def test_small_widths(self):
        for width in (1, 2, 3, 4, 5):
            for stretch in all_stretches(width):
                self.assertEqual(str(mask_around(stretch)), narrowest_text(width, words_in(stretch)))
            for mask in all_masks(width):
                self.assertEqual(stretch_around(mask), Stretch.narrowest(width, tuple(words_in(mask))), str(mask))

    def test_width_64(self):
        whole = Mask.read("?" * 64)
        for first, count, text in ((0, 2 ** 64, "?" * 64), (TOP, 2, "?" * 64), (TOP, 1, "1" * 64), (0, 1, "0" * 64),
                                   (2 ** 63 - 1, 2, "?" * 64), (2 ** 63, 2 ** 63, "1" + "?" * 63),
                                   (2 ** 63, 2 ** 63 - 1, "1" + "?" * 63), (4, 4, "0" * 61 + "1??"),
                                   (4, 5, "0" * 60 + "????"), (6, 2, "0" * 61 + "11?")):
            self.assertEqual(str(mask_around(Stretch(64, first, count))), text)
        self.assertEqual(stretch_around(whole), Stretch(64, 0, 2 ** 64))
        self.assertEqual(stretch_around(Mask.read("?" + "0" * 63)), Stretch(64, 0, 2 ** 63 + 1))
        self.assertEqual(stretch_around(Mask.read("?" + "1" * 63)), Stretch(64, 2 ** 63 - 1, 2 ** 63 + 1))
        self.assertEqual(stretch_around(Mask.read("01" * 32)).extent, 1)
        self.assertEqual(stretch_around(Mask.read("?0" * 32)), Stretch(64, 0, TOP // 3 * 2 + 1))


class VerdictTests(unittest.TestCase):
    def check(self, word, one, other):
        """The verdict holds; all verdicts without words are judged."""
        kind = slow_kind(word, one, other)
        found = find_verdict(word, one, other)
        self.assertEqual((type(found), found[0]), (tuple, kind))
        self.assertIs(check_verdict(word, one, other, found), True)
        for told in ("always", "never", "sometimes"):
            self.assertIs(check_verdict(word, one, other, (told,)), told == kind and told != "sometimes")
        if kind == "sometimes":
            self.assertIs(check_verdict(word, one, other, (found[0], found[2], found[1])), False)
        return kind

    def test_examples(self):
        self.assertEqual(find_verdict("less", Mask.read("00??"), Mask.read("01??")), ("always",))
        value = ("sometimes", (2, 4), (7, 4))
        self.assertIs(check_verdict("less", Mask.read("0?1?"), Mask.read("0100"), value), True)

    def test_all_masks_of_small_widths(self):
        kinds = set()
        for width in (1, 2, 3):
            for one, other in itertools.product(all_masks(width), repeat=2):
                for word in WORDS:
                    kinds.add((word, self.check(word, one, other)))
        self.assertEqual(len(kinds), 9)

    def test_masks_of_width_4(self):
        rng = some_random(67)
        masks = all_masks(4)
        for _ in range(1500):
            self.check(rng.choice(WORDS), rng.choice(masks), rng.choice(masks))

    def test_all_stretches_of_small_widths(self):
        kinds = set()
        for width in (1, 2, 3):
            for one, other in itertools.product(all_stretches(width), repeat=2):
                for word in WORDS:
                    kinds.add((word, self.check(word, one, other)))
        self.assertEqual(len(kinds), 9)

    def test_stretches_of_width_4(self):
        rng = some_random(68)
        stretches = all_stretches(4)
        for _ in range(1500):
            self.check(rng.choice(WORDS), rng.choice(stretches), rng.choice(stretches))

    def test_all_pairs_are_judged(self):
        parts = [(Mask.read("?1?"), Mask.read("01?")), (Mask.read("??0"), Mask.read("???")), (Stretch(3, 6, 4), Stretch(3, 1, 3)),
                 (Mask.read("010"), Mask.read("010")), (Mask.read("00?"), Mask.read("11?"))]
        for one, other in parts:
            pairs = list(itertools.product(range(-1, 9), repeat=2))
            for word in WORDS:
                good = [[pair for pair in pairs if pair[0] in one and pair[1] in other
                         and slow_holds(word, 3, *pair) is wanted] for wanted in (True, False)]
                for yes, no in itertools.product(pairs[::3], pairs[::4]):
                    expected = yes in good[0] and no in good[1]
                    self.assertIs(check_verdict(word, one, other, ("sometimes", yes, no)), expected)

    def test_width_64(self):
        whole, low, high = Stretch(64, 0, 2 ** 64), Stretch(64, 0, 2 ** 63), Stretch(64, 2 ** 63, 2 ** 63)
        zero, top = Stretch(64, 0, 1), Stretch(64, TOP, 1)
        for word, one, other, kind in (
                ("less", low, high, "always"), ("signed", low, high, "never"), ("signed", high, low, "always"),
                ("less", high, low, "never"), ("same", low, high, "never"), ("same", top, top, "always"),
                ("same", whole, top, "sometimes"), ("less", whole, zero, "never"), ("less", top, whole, "never"),
                ("less", zero, whole, "sometimes"), ("signed", whole, high, "sometimes"),
                ("signed", Stretch(64, 2 ** 63, 1), Stretch(64, 2 ** 63 + 1, TOP), "always"),
                ("signed", Stretch(64, 2 ** 63 - 1, 2), zero, "sometimes"), ("less", Stretch(64, TOP, 2), zero, "never"),
                ("signed", Stretch(64, TOP, 2), Stretch(64, 1, 5), "always"), ("same", whole, whole, "sometimes")):
            found = find_verdict(word, one, other)
            self.assertEqual(found[0], kind, (word, str(one), str(other)))
            self.assertIs(check_verdict(word, one, other, found), True)
            if kind == "sometimes":
                self.assertTrue(slow_holds(word, 64, *found[1]) and not slow_holds(word, 64, *found[2]))
        for word, one, other, kind in (
                ("signed", Mask.read("1" + "?" * 63), Mask.read("0" + "?" * 63), "always"),
                ("less", Mask.read("1" + "?" * 63), Mask.read("0" + "?" * 63), "never"),
                ("same", Mask.read("?" * 63 + "0"), Mask.read("?" * 63 + "1"), "never"),
                ("same", Mask.read("?" * 64), Mask.read("?" * 63 + "1"), "sometimes"),
                ("less", Mask.read("?" * 64), Mask.read("0" * 64), "never"),
                ("signed", Mask.read("?" * 64), Mask.read("1" + "0" * 63), "never"),
                ("signed", Mask.read("?" * 64), Mask.read("0" + "1" * 63), "sometimes")):
            found = find_verdict(word, one, other)
            self.assertEqual(found[0], kind)
            self.assertIs(check_verdict(word, one, other, found), True)

    def test_values_of_all_kinds(self):
        told = [("less", Mask.read("00??"), Mask.read("01??")), ("same", Stretch(4, 3, 1), Stretch(4, 4, 3)),
                ("signed", Mask.read("?0?1"), Mask.read("1?00")), ("same", Stretch(4, 14, 9), Stretch(4, 1, 15))]
        for word, one, other in told:
            right = find_verdict(word, one, other)
            for value in [*odd_values(), Other(), one, other, "always", "never", ["always"], ["never"], ("Always",),
                          ("always", ()), ("never", None), ("sometimes",), ("sometimes", None, None),
                          ("sometimes", (0, 0)), ("sometimes", [0, 4], [4, 0]), ((right,)), (*right, right), None]:
                self.assertIs(check_verdict(word, one, other, value), False, value)
            for value in changed_values(right):
                expected = self.is_right(word, one, other, value)
                self.assertIs(check_verdict(word, one, other, value), expected, value)

    def is_right(self, word, one, other, value):
        """Whether a changed verdict is still one."""
        if type(value) is not tuple or len(value) != 3 or value[0] != "sometimes":
            return False
        for pair, wanted in zip(value[1:], (True, False)):
            if type(pair) is not tuple or len(pair) != 2 or any(type(x) is not int for x in pair):
                return False
            if pair[0] not in words_in(one) or pair[1] not in words_in(other):
                return False
            if slow_holds(word, one.width, *pair) is not wanted:
                return False
        return True

    def test_unequal_widths(self):
        for one, other in ((Mask.read("0?"), Mask.read("0??")), (Stretch(4, 0, 1), Stretch(5, 0, 1))):
            for word in WORDS:
                self.assertRaises(UnequalWidths, find_verdict, word, one, other)
                for value in (("always",), ("never",), None, ("sometimes", (0, 1), (1, 0))):
                    self.assertRaises(UnequalWidths, check_verdict, word, one, other, value)

    def test_bools_are_no_words(self):
        one, other = Mask.read("??"), Mask.read("??")
        self.assertIs(check_verdict("less", one, other, ("sometimes", (0, 1), (1, 0))), True)
        self.assertIs(check_verdict("less", one, other, ("sometimes", (False, True), (1, 0))), False)


if __name__ == "__main__":
    unittest.main()
