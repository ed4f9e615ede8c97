"""[60], [61] Sums of multiples of members of masks."""

import itertools
import unittest

from tests.helpers import Other, changed_values, narrowest_text, odd_values, some_random
from wordsalike.masks import Mask
from wordsalike.mixing import Mix
from wordsalike.sums import sum_mask, sum_paper, sum_paper_holds

EXAMPLE = ((3, Mask.read("000?")),)
PAPER = (((0,), (0, 1), (0,), (0,)), (((0,), (1,)), ((0,), (1,))))
GREAT = 10 ** 400 - 1


def members_of(mask):
    return [word for word in range(2 ** mask.width) if word in mask]


def results_of(terms, number):
    """All results, by listing the members."""
    width = terms[0][1].width
    found = set()
    for members in itertools.product(*[members_of(mask) for _, mask in terms]):
        found.add((number + sum(factor * word for word, (factor, _) in zip(members, terms))) % 2 ** width)
    return sorted(found)


def slow_holds(terms, number, mask, value):
    """[61] by its words, for a value of the right form with integers."""
    rows, pairs = value
    width = mask.width
    text = str(mask)[::-1]
    factors = [factor for factor, _ in terms]
    if len(rows) != width or 0 not in rows[0] or len(pairs) != text.count("?"):
        return False
    for i, row in enumerate(rows):
        allowed = [{"0": (0,), "1": (1,), "?": (0, 1)}[str(other)[::-1][i]] for _, other in terms]
        for carry, bits in itertools.product(row, itertools.product(*allowed)):
            t = carry + number % 2 ** width // 2 ** i % 2 + sum(f * bit for f, bit in zip(factors, bits))
            if i < width - 1 and t // 2 not in rows[i + 1]:
                return False
            if text[i] not in ("?", str(t % 2)):
                return False
    places = [i for i in range(width) if text[i] == "?"]
    for i, pair in zip(places, pairs):
        bits = []
        for members in pair:
            if len(members) != len(terms) or any(word not in other for word, (_, other) in zip(members, terms)):
                return False
            total = number + sum(factor * word for factor, word in zip(factors, members))
            bits.append(total % 2 ** width // 2 ** i % 2)
        if len(pair) != 2 or bits[0] == bits[1]:
            return False
    return True


def random_mask(rng, width):
    return Mask.read("".join(rng.choice("01???") for _ in range(width)))


def random_terms(rng, width, many, most=255):
    cuts = sorted(rng.sample(range(1, most + 1), many))
    factors = [high - low for low, high in zip([0, *cuts], cuts)]
    return tuple((rng.choice((1, -1)) * factor, random_mask(rng, width)) for factor in factors)


class SmallTests(unittest.TestCase):
    def check(self, terms, number):
        width = terms[0][1].width
        mask = sum_mask(terms, number)
        self.assertEqual(str(mask), narrowest_text(width, results_of(terms, number)), (terms, number))
        paper = sum_paper(terms, number)
        self.assertIs(sum_paper_holds(terms, number, mask, paper), True)
        self.assertTrue(slow_holds(terms, number, mask, paper))
        return paper

    def test_all_members_listed(self):
        rng = some_random(60)
        for width, many, rounds in ((1, 1, 20), (1, 4, 20), (2, 2, 40), (3, 1, 40), (3, 3, 30), (4, 2, 30), (4, 1, 40),
                                    (2, 4, 20), (5, 2, 10), (6, 1, 20)):
            for _ in range(rounds):
                most = rng.choice((many, 7 + many, 255))
                number = rng.choice((0, 1, -1, rng.randrange(-99, 99), GREAT, -GREAT))
                self.check(random_terms(rng, width, many, most), number)

    def test_all_masks_of_small_widths(self):
        for width in (1, 2, 3):
            for signs in itertools.product("01?", repeat=width):
                mask = Mask.read("".join(signs))
                for factor, number in ((1, 0), (-1, 0), (3, 1), (-5, 2), (255, -1), (-255, GREAT), (2, 5), (4, 0)):
                    self.check(((factor, mask),), number)

    def test_all_masks_are_judged(self):
        rng = some_random(61)
        for terms, number in ((EXAMPLE, 0), (((5, Mask.read("00?0")),), 1), (((1, Mask.read("0?")), (-3, Mask.read("?1"))), 2)):
            width = terms[0][1].width
            paper = sum_paper(terms, number)
            for signs in itertools.product("01?", repeat=width):
                mask = Mask.read("".join(signs))
                expected = mask == sum_mask(terms, number)
                self.assertIs(sum_paper_holds(terms, number, mask, paper), expected)
                # No paper at all holds for another mask, whatever its rows and pairs are.
                pairs = paper[1]
                for count in range(3):
                    other = (paper[0], tuple(rng.choice(pairs) for _ in range(count)))
                    self.assertIs(sum_paper_holds(terms, number, mask, other), slow_holds(terms, number, mask, other))


class ExampleTests(unittest.TestCase):
    def test_examples(self):
        self.assertEqual(str(sum_mask(EXAMPLE, 0)), "00??")
        self.assertEqual(str(sum_mask(((5, Mask.read("00?0")),), 1)), "?0?1")
        self.assertIs(sum_paper_holds(EXAMPLE, 0, Mask.read("00??"), PAPER), True)
        self.assertIs(sum_paper_holds(EXAMPLE, 0, Mask.read("0???"), PAPER), False)

    def test_narrower_than_several_steps(self):
        mask = Mask.read("000?")
        self.assertEqual(str(mask + mask + mask), "0???")
        self.assertEqual(str(sum_mask(((1, mask), (2, mask)), 0)), "00??")
        self.assertEqual(str(sum_mask(((1, mask), (-1, mask)), 0)), "????")


class GreatTests(unittest.TestCase):
    def check(self, terms, number, rng):
        """The mask contains many results, and the paper holds for it and for no other one."""
        width = terms[0][1].width
        mask = sum_mask(terms, number)
        for _ in range(20):
            words = [other[rng.randrange(other.extent)] for _, other in terms]
            self.assertIn((number + sum(factor * word for word, (factor, _) in zip(words, terms))) % 2 ** width, mask)
        paper = sum_paper(terms, number)
        self.assertIs(sum_paper_holds(terms, number, mask, paper), True)
        self.assertTrue(slow_holds(terms, number, mask, paper))
        for place in (0, width // 2, width - 1):
            text = str(mask)
            for sign in "01?":
                other = Mask.read(text[:place] + sign + text[place + 1:])
                self.assertIs(sum_paper_holds(terms, number, other, paper), other == mask)
        return mask

    def test_width_64(self):
        rng = some_random(62)
        for width, many, number in ((64, 1, 0), (64, 2, -1), (63, 3, GREAT), (64, 4, -GREAT), (64, 3, 1), (31, 4, 5)):
            self.check(random_terms(rng, width, many), number, rng)

    def test_ends(self):
        rng = some_random(63)
        whole, single = Mask.read("?" * 64), Mask.read("01" * 32)
        self.assertEqual(self.check(((255, whole),), GREAT, rng), whole)
        self.assertEqual(self.check(((-255, whole),), -GREAT, rng), whole)
        self.assertEqual(self.check(((100, whole), (-100, whole), (-54, whole), (1, whole)), 7, rng), whole)
        word = (GREAT + 200 * single.least - 55 * single.least) % 2 ** 64
        self.assertEqual(self.check(((200, single), (-55, single)), GREAT, rng), Mask(64, word, word))
        self.assertEqual(sum_paper(((200, single), (-55, single)), GREAT)[1], ())
        self.assertEqual(str(self.check(((64, whole), (128, whole)), 5, rng)), "?" * 58 + "000101")
        low = Mask.read("0" * 63 + "?")
        terms = ((1, low), (2, low), (4, low), (248, low))
        self.assertEqual(str(self.check(terms, -8, rng))[-3:], "???")

    def test_one_sum_of_powers(self):
        # Each term has one open bit: no carry is lost.
        for bit in range(64):
            mask = Mask(64, 0, 2 ** bit)
            found = sum_mask(((255, mask),), 0)
            self.assertEqual(found, Mask(64, 0, 255 * 2 ** bit % 2 ** 64))


class ValueTests(unittest.TestCase):
    def test_values_of_all_kinds(self):
        terms = ((3, Mask.read("00?0")), (-2, Mask.read("?10?")))
        mask = sum_mask(terms, 5)
        paper = sum_paper(terms, 5)
        self.assertIs(sum_paper_holds(terms, 5, mask, paper), True)
        for value in [*odd_values(), Other(), Mask.read("0"), (paper,), (*paper, ()), paper[0], paper[1], list(paper),
                      (list(paper[0]), paper[1]), (paper[0], list(paper[1])), Mix.read("a", 4)]:
            self.assertIs(sum_paper_holds(terms, 5, mask, value), False)
        for value in changed_values(paper):
            self.assertIs(sum_paper_holds(terms, 5, mask, value), self.is_right(terms, 5, mask, value), value)

    def is_right(self, terms, number, mask, value):
        """Whether a changed value is still a paper: its form is looked at before its words."""
        if type(value) is not tuple or len(value) != 2 or any(type(part) is not tuple for part in value):
            return False
        rows, pairs = value
        for row in rows:
            if type(row) is not tuple or any(type(item) is not int for item in row) or list(row) != sorted(set(row)):
                return False
        for pair in pairs:
            if type(pair) is not tuple or len(pair) != 2 or any(type(part) is not tuple for part in pair):
                return False
            if any(type(word) is not int for part in pair for word in part):
                return False
        return slow_holds(terms, number, mask, value)

    def test_rows_and_pairs_changed(self):
        mask = Mask.read("00??")
        rows, pairs = PAPER
        for value, expected in (
                ((rows, pairs[:1]), False), ((rows, (*pairs, pairs[0])), False),
                ((rows, ()), False), ((rows[:3], pairs), False), ((rows + ((0,),), pairs), False),
                ((rows, (((1,), (0,)), ((0,), (1,)))), True), ((rows, (((0,), (0,)), pairs[1])), False),
                ((rows, (((0,), (2,)), pairs[1])), False), ((rows, (((0,), (1,), (1,)), pairs[1])), False),
                ((((0, 2), (0, 1, 2), (0, 1), (0,)), pairs), False), ((((1,), (0, 1), (0,), (0,)), pairs), False),
                (((((0,), (1, 0), (0,), (0,))), pairs), False), (((((0,), (0, 0, 1), (0,), (0,))), pairs), False),
                ((((0,), (0, 1), (0,), ()), pairs), False), ((((0,), (0, 1), (0,), (0, 2)), pairs), True),
                ((((0,), (0, 1), (0,), (0, 1)), pairs), False), ((((0,), (0, 1, 2), (0, 1), (0,)), pairs), False),
                ((((0,), (0, 1), (0, 4), (0, 2)), pairs), True),
                ((((0,), (0, 1), (0, 10 ** 399), (0, 5 * 10 ** 398)), pairs), True),
                ((((0,), (0, 1), (-10 ** 399, 0), (-5 * 10 ** 398, 0)), pairs), True)):
            self.assertIs(sum_paper_holds(EXAMPLE, 0, mask, value), expected, value)
            self.assertEqual(self.is_right(EXAMPLE, 0, mask, value), expected, value)

    def test_other_numbers_and_terms(self):
        rng = some_random(64)
        terms = random_terms(rng, 8, 3)
        mask = sum_mask(terms, 77)
        paper = sum_paper(terms, 77)
        self.assertIs(sum_paper_holds(terms, 77 + 256, mask, paper), True)
        for other, number in ((terms, 78), (terms[:2], 77), (terms[::-1], 77), (((1, terms[0][1]), *terms[1:]), 77)):
            expected = slow_holds(other, number, mask, paper)
            self.assertIs(sum_paper_holds(other, number, mask, paper), expected)


if __name__ == "__main__":
    unittest.main()
