"""Reads texts of expressions from left to right, up to the first character that is wrong.

What is read waits on a stack until its last part is complete. Nothing here calls itself, so
that a text of any depth can be read.
"""

from wordsalike.errors import ParseError
from wordsalike.expressions import NUMBER_BOUNDS
from wordsalike.signs import COMPARING_GROUP, LETTERS, PICK_GROUP, PREFIX_GROUP, PREFIXES, SIGNS

DIGITS = "0123456789"
# No integer in a text of a program, or in a command, has more digits.
MOST_DIGITS = 20
# The groups of what waits across other signs: the third part of a pick takes in all signs that
# follow, and only a ) or a : ends what is within parentheses or between ? and :.
LAST_PART_GROUP = 10
ENCLOSED_GROUP = 11


def is_digit(character):
    """Whether a character, or an empty text, is a decimal digit."""
    return character != "" and character in DIGITS


def is_decimal(text):
    """Whether a text is an integer from 0 on as it is written in programs."""
    if not 1 <= len(text) <= MOST_DIGITS or (text[0] == "0" and text != "0"):
        return False
    return all([is_digit(character) for character in text])


class Waiting:
    """A sign that waits for the part behind it, with the parts in front of it."""

    def __init__(self, sign, operation, group, front=None, middle=None):
        self.sign = sign
        self.operation = operation
        self.group = group
        self.front = front
        self.middle = middle


def joined(operation, parts):
    """The part, as (expression, nodes, depth), that an operation makes of some parts."""
    expressions = [part[0] for part in parts]
    nodes = 1 + sum([part[1] for part in parts])
    depth = 1 + max([part[2] for part in parts])
    return ((operation, *expressions), nodes, depth)


class Reader:
    """A text, the place that is reached in it, and what stands before that place."""

    def __init__(self, text):
        self.text = text
        self.place = 0
        # The part that ends at the place, and the group of the sign in it that must not be
        # followed by one that binds more.
        self.part = None
        self.group = 0
        self.waiting = []

    def next_character(self):
        """The character at the place, behind spaces; empty at the end."""
        while self.text[self.place:self.place + 1] == " ":
            self.place += 1
        return self.text[self.place:self.place + 1]

    def read_operand(self):
        """Reads the signs that open a part, and the name or number behind them."""
        character = self.next_character()
        while character == "(" or character in PREFIXES:
            if character == "(":
                self.waiting.append(Waiting("(", None, ENCLOSED_GROUP))
            else:
                self.waiting.append(Waiting(character, PREFIXES[character], PREFIX_GROUP))
            self.place += 1
            character = self.next_character()
        if character != "" and character in LETTERS:
            self.place += 1
            expression = ("name", LETTERS.index(character))
        else:
            expression = ("number", self.read_number("number"))
        self.part = (expression, 1, 1)
        self.group = 0

    def read_number(self, operation):
        """Reads the number of an operation; the digits stand side by side."""
        low, high = NUMBER_BOUNDS[operation]
        character = self.next_character()
        if not is_digit(character):
            raise ParseError(self.place)
        start = self.place
        number = 0
        while is_digit(character):
            # A digit behind a zero in front makes no number.
            if self.place > start and number == 0:
                raise ParseError(self.place)
            number = 10 * number + DIGITS.index(character)
            if number < low or number > high:
                raise ParseError(self.place)
            self.place += 1
            character = self.text[self.place:self.place + 1]
        return number

    def enclosing_sign(self):
        """The innermost ( or ? that is not closed by a ) or a :, empty if there is none."""
        for waiting in reversed(list(self.waiting)):
            if waiting.group == ENCLOSED_GROUP:
                return waiting.sign
        return ""

    def is_in_comparison(self):
        """Whether the part is within the right side of < or == and not within parentheses."""
        for waiting in reversed(list(self.waiting)):
            if waiting.group >= COMPARING_GROUP:
                return waiting.group == COMPARING_GROUP
        return False

    def possible_signs(self):
        """A list of the signs that can stand behind the part."""
        signs = [sign for sign in SIGNS if SIGNS[sign][1] >= self.group]
        if self.is_in_comparison():
            signs = [sign for sign in signs if SIGNS[sign][1] != COMPARING_GROUP]
        enclosing = self.enclosing_sign()
        if enclosing == "(":
            signs.append(")")
        elif enclosing == "?":
            signs.append(":")
        return signs

    def read_sign(self):
        """Reads the sign behind the part, the longest one that is possible."""
        signs = self.possible_signs()
        size = 0
        while self.place + size < len(self.text):
            begun = self.text[self.place:self.place + size + 1]
            if not any([sign.startswith(begun) for sign in signs]):
                break
            size += 1
        sign = self.text[self.place:self.place + size]
        if sign not in signs:
            raise ParseError(self.place + size)
        self.place += size
        return sign

    def join_last(self):
        """Joins the part to what waits for it last."""
        waiting = self.waiting.pop()
        parts = [part for part in (waiting.front, waiting.middle, self.part) if part is not None]
        self.part = joined(waiting.operation, parts)

    def join_within(self, group):
        """Joins the part to all that waits for it and does not bind less than the group."""
        while len(self.waiting) > 0 and self.waiting[-1].group <= group:
            self.join_last()

    def follow(self, sign):
        """Goes on behind a sign, to the end of the next part."""
        if sign == ")":
            self.join_within(LAST_PART_GROUP)
            self.waiting.pop()
            self.group = 0
        elif sign == ":":
            self.join_within(LAST_PART_GROUP)
            pick = self.waiting.pop()
            self.waiting.append(Waiting(":", "pick", LAST_PART_GROUP, pick.front, self.part))
            self.read_operand()
        else:
            self.follow_operator(sign)

    def follow_operator(self, sign):
        """Goes on behind a sign that is no ) and no :."""
        operation, group = SIGNS[sign]
        self.join_within(group)
        if operation in NUMBER_BOUNDS:
            expression, nodes, depth = self.part
            number = self.read_number(operation)
            self.part = ((operation, expression, number), nodes + 1, depth + 1)
            self.group = group
        elif group == PICK_GROUP:
            self.waiting.append(Waiting(sign, operation, ENCLOSED_GROUP, self.part))
            self.read_operand()
        else:
            self.waiting.append(Waiting(sign, operation, group, self.part))
            self.read_operand()


def read_expression(text):
    """The expression whose text this is, of any size, with its nodes and its depth."""
    reader = Reader(text)
    reader.read_operand()
    while reader.next_character() != "":
        reader.follow(reader.read_sign())
    if reader.enclosing_sign() != "":
        raise ParseError(len(text))
    reader.join_within(LAST_PART_GROUP)
    return reader.part
