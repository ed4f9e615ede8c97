"""[54] to [59] Masks."""

import itertools
import unittest

from tests.helpers import Other, narrowest_text, odd_values, some_random
from wordsalike.errors import (BadMask, BadShift, BadWidth, BadWord, NoSuchIndex, NotInside, ParseError, UnequalWidths)
from wordsalike.masks import Mask


def texts(width):
    return ["".join(signs) for signs in itertools.product("01?", repeat=width)]


def members_of(text):
    return [int("".join(bits), 2) for bits in itertools.product(*["01" if sign == "?" else sign for sign in text])]


def great_texts():
    """Texts of masks of the width 64, with the lowest and the highest bits open."""
    rng = some_random(55)
    found = ["0" * 64, "1" * 64, "?" * 64, "?" + "0" * 63, "0" * 63 + "?", "1" * 63 + "?", "?" + "1" * 63,
             "?" * 32 + "01" * 16, "01" * 16 + "?" * 32, "?0" * 32, "1?" * 32]
    found.extend("".join(rng.choice("01?") for _ in range(64)) for _ in range(12))
    return found


def some_members(text, rng):
    """The least and the greatest member, and some others."""
    found = [int(text.replace("?", "0"), 2), int(text.replace("?", "1"), 2)]
    for _ in range(10):
        found.append(int("".join(rng.choice("01") if sign == "?" else sign for sign in text), 2))
    return found


class ConstructorTests(unittest.TestCase):
    def test_example(self):
        mask = Mask(4, 5, 7)
        self.assertEqual((str(mask), mask.extent, Mask.read("01?1") == mask), ("01?1", 2, True))
        self.assertEqual(str(Mask.narrowest(4, (5, 6))), "01??")

    def test_small_widths(self):
        for width in range(1, 5):
            found = set()
            for least, greatest in itertools.product(range(2 ** width), repeat=2):
                if least & ~greatest:
                    with self.assertRaises(BadMask) as caught:
                        Mask(width, least, greatest)
                    self.assertEqual(caught.exception.bits, least & ~greatest)
                    continue
                mask = Mask(width, least, greatest)
                found.add(str(mask))
                members = members_of(str(mask))
                self.assertEqual((mask.width, mask.least, mask.greatest), (width, members[0], members[-1]))
                self.assertEqual((mask.least, mask.greatest, mask.extent), (least, greatest, len(members)))
            self.assertEqual(found, set(texts(width)))

    def test_values_of_all_kinds(self):
        for value in [*odd_values(), Other(), 0, 65, Mask(4, 0, 0)]:
            self.check_error(BadWidth, value, value, 0, 0)
            self.check_error(BadWidth, value, value, value, value)
            if value != 0 or isinstance(value, bool):
                if value != 65:
                    self.check_error(BadWord, value, 8, value, 0)
                    self.check_error(BadWord, value, 8, value, value)
                    self.check_error(BadWord, value, 8, 255, value)

    def check_error(self, kind, field, *arguments):
        with self.assertRaises(kind) as caught:
            Mask(*arguments)
        self.assertIs(caught.exception.value, field)

    def test_bounds(self):
        self.check_error(BadWord, 16, 4, 16, 0)
        self.check_error(BadWord, 16, 4, 15, 16)
        self.check_error(BadWord, 17, 4, 17, 16)
        self.check_error(BadWord, 2 ** 64, 64, 0, 2 ** 64)
        self.check_error(BadWidth, 65, 65, -1, -1)
        self.check_error(BadWidth, 0, 0, 1, 0)
        self.assertEqual(Mask(64, 0, 2 ** 64 - 1).extent, 2 ** 64)
        self.assertEqual(str(Mask(1, 0, 1)), "?")
        with self.assertRaises(BadMask) as caught:
            Mask(64, 2 ** 63 + 5, 4)
        self.assertEqual(caught.exception.bits, 2 ** 63 + 1)

    def test_read(self):
        for width in range(1, 5):
            for text in texts(width):
                self.assertEqual(str(Mask.read(text)), text)
        for text in great_texts():
            mask = Mask.read(text)
            self.assertEqual((str(mask), mask.width, mask.extent), (text, 64, 2 ** text.count("?")))

    def test_read_wrong(self):
        for value, place in (("", 0), (" 0", 0), ("0 ", 1), ("01x1", 2), ("01?2", 3), ("0" * 64 + "0", 64),
                             ("0" * 64 + "x", 64), ("0" * 63 + "x0", 63), ("?" * 4000, 64), ("x" * 4000, 0),
                             ("-1", 0), ("0b1", 1), ("0_1", 1), ("\u0661", 0), ("0\n", 1), ("01?1?", None)):
            if place is None:
                continue
            with self.assertRaises(ParseError) as caught:
                Mask.read(value)
            self.assertEqual(caught.exception.place, place, value)
        for value in [*odd_values(), Other(), 5, Mask(4, 0, 0)]:
            if not isinstance(value, str):
                with self.assertRaises(ParseError) as caught:
                    Mask.read(value)
                self.assertIsNone(caught.exception.place)

    def test_narrowest(self):
        for width in range(1, 4):
            for many in range(1, 4):
                for words in itertools.product(range(2 ** width), repeat=many):
                    self.assertEqual(str(Mask.narrowest(width, words)), narrowest_text(width, words))
        self.assertEqual(str(Mask.narrowest(64, (0, 2 ** 63))), "?" + "0" * 63)
        self.assertEqual(Mask.narrowest(64, (2 ** 64 - 1,)).extent, 1)

    def test_equal(self):
        for one, other in itertools.product([*texts(1), *texts(2), *texts(3)], repeat=2):
            self.assertIs(Mask.read(one) == Mask.read(other), one == other)
            self.assertIs(Mask.read(one) != Mask.read(other), one != other)
        mask = Mask(4, 5, 7)
        for value in [*odd_values(), "01?1", 5, 7, (4, 5, 7)]:
            self.assertIs(mask == value, False)
            self.assertIs(mask != value, True)

    def test_properties_can_only_be_read(self):
        mask = Mask(4, 5, 7)
        for name in ("width", "least", "greatest", "extent"):
            with self.assertRaises(AttributeError):
                setattr(mask, name, 1)
        self.assertEqual(str(mask), "01?1")


class MemberTests(unittest.TestCase):
    def test_example(self):
        mask = Mask.read("1?0?")
        self.assertEqual((mask[2], mask.member_number(13), mask.next_member(10), 10 in mask), (12, 3, 12, False))

    def test_small_widths(self):
        for width in range(1, 6):
            for text in texts(width):
                mask, members = Mask.read(text), members_of(text)
                self.assertEqual([mask[index] for index in range(mask.extent)], members)
                for value in range(-3, 2 ** width + 3):
                    self.assertIs(value in mask, value in members)
                    later = [member for member in members if member >= value]
                    self.assertEqual(mask.next_member(value), later[0] if later else None)
                    if value in members:
                        self.assertEqual(mask.member_number(value), members.index(value))
                    else:
                        self.check_not_inside(mask, value)
                for index in (-1, len(members), len(members) + 1, -len(members)):
                    self.check_no_index(mask, index)

    def check_not_inside(self, mask, value):
        with self.assertRaises(NotInside) as caught:
            mask.member_number(value)
        self.assertIs(caught.exception.value, value)

    def check_no_index(self, mask, index):
        with self.assertRaises(NoSuchIndex) as caught:
            mask[index]
        self.assertIs(caught.exception.index, index)

    def test_values_of_all_kinds(self):
        masks = [Mask.read(text) for text in ("?", "??", "?" * 63, "0" * 63 + "?")]
        for mask in masks:
            for value in [*odd_values(), Other(), slice(0, 1), "01", mask]:
                self.assertIs(value in mask, False)
                self.check_not_inside(mask, value)
                self.check_no_index(mask, value)

    def test_great_widths(self):
        rng = some_random(56)
        for text in great_texts():
            mask = Mask.read(text)
            self.assertEqual((mask[0], mask[mask.extent - 1]), (mask.least, mask.greatest))
            self.check_no_index(mask, mask.extent)
            for member in some_members(text, rng):
                self.assertIn(member, mask)
                number = mask.member_number(member)
                self.assertEqual(mask[number], member)
                self.assertEqual(mask.next_member(member), member)
                following = mask[number + 1] if number + 1 < mask.extent else None
                self.assertEqual(mask.next_member(member + 1), following)
            for value in (-1, -(10 ** 399), 0, mask.least):
                self.assertEqual(mask.next_member(value), mask.least)
            for value in (mask.greatest + 1, 2 ** 64, 10 ** 399, 2 ** 64 + mask.greatest):
                self.assertIsNone(mask.next_member(value))
            for _ in range(20):
                self.check_next(mask, rng.randrange(2 ** 64))

    def check_next(self, mask, value):
        """Nothing lies between the member before the next one and the value."""
        found = mask.next_member(value)
        number = mask.extent if found is None else mask.member_number(found)
        if found is not None:
            self.assertGreaterEqual(found, value)
        if number > 0:
            self.assertLess(mask[number - 1], value)


class OperatorTests(unittest.TestCase):
    TWO = {
        "&": (lambda x, y: x & y), "|": (lambda x, y: x | y), "^": (lambda x, y: x ^ y),
        "+": (lambda x, y: x + y), "-": (lambda x, y: x - y),
    }

    def test_examples(self):
        self.assertEqual(str(Mask.read("0?1?") & Mask.read("01?1")), "0???")
        self.assertEqual(str(Mask.read("01?0") + Mask.read("00?1")), "???1")
        self.assertEqual(str(Mask.read("0110") - Mask.read("00?0")), "01?0")
        self.assertEqual(str(~Mask.read("01?0")), "10?1")
        self.assertEqual((str(Mask.read("01?1") << 1), str(Mask.read("?01?").signed_right(1))), ("1?10", "??01"))

    def test_two_masks(self):
        for width in range(1, 5):
            for one, other in itertools.product(texts(width), repeat=2):
                pairs = list(itertools.product(members_of(one), members_of(other)))
                for sign, action in self.TWO.items():
                    results = {action(x, y) % 2 ** width for x, y in pairs}
                    found = action(Mask.read(one), Mask.read(other))
                    self.assertEqual(str(found), narrowest_text(width, results), (one, sign, other))
                    if sign in "&|^":
                        self.assertEqual(set(members_of(str(found))), results)

    def test_one_mask(self):
        for width in range(1, 6):
            for text in texts(width):
                members = members_of(text)
                inverted = {2 ** width - 1 - x for x in members}
                self.assertEqual(str(~Mask.read(text)), narrowest_text(width, inverted))
                self.assertEqual(set(members_of(str(~Mask.read(text)))), inverted)
                self.assertEqual(str(-Mask.read(text)), narrowest_text(width, {-x % 2 ** width for x in members}))

    def test_shifts(self):
        for width in range(1, 6):
            for text in texts(width):
                mask, members = Mask.read(text), members_of(text)
                signed = [x - 2 ** width if x >= 2 ** width // 2 else x for x in members]
                for amount in range(width):
                    left = {x * 2 ** amount % 2 ** width for x in members}
                    self.assertEqual(str(mask << amount), narrowest_text(width, left))
                    right = {x // 2 ** amount for x in members}
                    self.assertEqual(str(mask >> amount), narrowest_text(width, right))
                    arithmetic = {x // 2 ** amount % 2 ** width for x in signed}
                    self.assertEqual(str(mask.signed_right(amount)), narrowest_text(width, arithmetic))

    def test_wrong_shifts(self):
        for text in ("?", "0?1?", "?" * 64):
            mask = Mask.read(text)
            for value in [*odd_values(), Other(), len(text), len(text) + 1, -1, mask]:
                for action in (lambda: mask << value, lambda: mask >> value, lambda: mask.signed_right(value)):
                    with self.assertRaises(BadShift) as caught:
                        action()
                    self.assertIs(caught.exception.shift, value)

    def test_great_widths(self):
        rng = some_random(57)
        for one, other in itertools.product(great_texts(), repeat=2):
            for sign, action in self.TWO.items():
                found = action(Mask.read(one), Mask.read(other))
                results = [action(x, y) % 2 ** 64
                           for x in some_members(one, rng) for y in some_members(other, rng)]
                self.assertTrue(all(result in found for result in results), (one, sign, other))
        for text in great_texts():
            for amount in (0, 1, 32, 63):
                left = str(Mask.read(text) << amount)
                self.assertEqual(left, text[amount:] + "0" * amount)
                self.assertEqual(str(Mask.read(text) >> amount), "0" * amount + text[:64 - amount])
                self.assertEqual(str(Mask.read(text).signed_right(amount)), text[0] * amount + text[:64 - amount])

    def test_carries_through_great_widths(self):
        self.assertEqual(str(Mask.read("0" * 63 + "?") + Mask.read("0" * 63 + "1")), "0" * 62 + "??")
        self.assertEqual(str(Mask.read("1" * 64) + Mask.read("0" * 63 + "?")), "?" * 64)
        self.assertEqual(str(Mask.read("0" * 64) - Mask.read("0" * 63 + "?")), "?" * 64)
        self.assertEqual(str(Mask.read("?" + "0" * 63) + Mask.read("?" + "0" * 63)), "?" + "0" * 63)
        self.assertEqual(str(-Mask.read("0" * 62 + "?0")), "?" * 63 + "0")

    def test_different_widths(self):
        one, other = Mask.read("0?1"), Mask.read("0?11")
        for action in (*self.TWO.values(), Mask.common_with, Mask.union_with, Mask.is_within):
            for pair in ((one, other), (other, one), (Mask.read("?"), Mask.read("?" * 64))):
                with self.assertRaises(UnequalWidths):
                    action(*pair)

    def test_the_masks_are_unchanged(self):
        one, other = Mask.read("0?1?"), Mask.read("?01?")
        for action in (*self.TWO.values(), Mask.common_with, Mask.union_with, Mask.is_within):
            action(one, other)
        self.assertEqual((str(~one), str(-one), str(one << 1)), (str(~one), str(-one), str(one << 1)))
        self.assertEqual((str(one), str(other)), ("0?1?", "?01?"))


class SetTests(unittest.TestCase):
    def test_examples(self):
        one, other = Mask.read("0?1?"), Mask.read("?010")
        self.assertEqual((str(one.common_with(other)), str(one.union_with(other))), ("0010", "??1?"))
        self.assertIsNone(Mask.read("00??").common_with(Mask.read("1??0")))

    def test_small_widths(self):
        for width in range(1, 5):
            for one, other in itertools.product(texts(width), repeat=2):
                first, second = set(members_of(one)), set(members_of(other))
                common = Mask.read(one).common_with(Mask.read(other))
                if common is None:
                    self.assertFalse(first & second)
                else:
                    self.assertEqual(set(members_of(str(common))), first & second)
                union = Mask.read(one).union_with(Mask.read(other))
                self.assertEqual(str(union), narrowest_text(width, first | second))
                self.assertIs(Mask.read(one).is_within(Mask.read(other)), first <= second)

    def test_great_widths(self):
        for text in great_texts():
            mask, everything = Mask.read(text), Mask.read("?" * 64)
            self.assertEqual(mask.common_with(everything), mask)
            self.assertEqual(mask.union_with(everything), everything)
            self.assertTrue(mask.is_within(everything))
            self.assertIs(everything.is_within(mask), text == "?" * 64)
        self.assertIsNone(Mask.read("?" * 63 + "0").common_with(Mask.read("?" * 63 + "1")))


if __name__ == "__main__":
    unittest.main()
