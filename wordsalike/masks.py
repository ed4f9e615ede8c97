"""Masks: words of which some bits are open."""

from wordsalike.bounds import WIDTH
from wordsalike.errors import (BadMask, BadShift, BadWidth, BadWord, NoSuchIndex, NotInside, ParseError,
                               UnequalWidths)
from wordsalike.words import greatest_word, is_integer_within, is_width, is_word, signed_value, to_word


class Mask:
    """A row of signs 0, 1 and ?, kept as its least and its greatest member."""

    def __init__(self, width, least, greatest):
        if not is_width(width):
            raise BadWidth(width)
        for word in (least, greatest):
            if not is_word(word, width):
                raise BadWord(word)
        if least & ~greatest != 0:
            raise BadMask(least & ~greatest)
        self._width = width
        self._least = least
        self._greatest = greatest

    @classmethod
    def read(cls, value):
        """The mask whose text any value is."""
        if not isinstance(value, str):
            raise ParseError(None)
        for place, sign in enumerate(value):
            if place == WIDTH or sign not in "01?":
                raise ParseError(place)
        if value == "":
            raise ParseError(0)
        least = int(value.replace("?", "0"), 2)
        return cls(len(value), least, int(value.replace("?", "1"), 2))

    @classmethod
    def narrowest(cls, width, words):
        """The narrowest mask of one or more words."""
        least = words[0]
        greatest = words[0]
        for word in words:
            least = least & word
            greatest = greatest | word
        return cls(width, least, greatest)

    @property
    def width(self):
        """The number of signs."""
        return self._width

    @property
    def least(self):
        """The least member."""
        return self._least

    @property
    def greatest(self):
        """The greatest member."""
        return self._greatest

    @property
    def extent(self):
        """The number of members."""
        return 1 << len(self._open_places())

    def _open_bits(self):
        """The word of the bits that are open."""
        return self._least ^ self._greatest

    def _open_places(self):
        """A list of the places of the bits that are open, from the lowest one up."""
        return [place for place in range(self._width) if self._open_bits() >> place & 1 == 1]

    def _sign_at(self, place):
        """The sign of the bit at a place."""
        if self._open_bits() >> place & 1 == 1:
            return "?"
        return str(self._least >> place & 1)

    def _require_width_of(self, other):
        """Raises an error if the other mask has another width."""
        if self._width != other._width:
            raise UnequalWidths()

    def __str__(self):
        return "".join([self._sign_at(place) for place in reversed(range(self._width))])

    def __eq__(self, other):
        return (isinstance(other, Mask) and self._width == other._width
                and self._least == other._least and self._greatest == other._greatest)

    def __contains__(self, value):
        if not is_word(value, self._width):
            return False
        return self._least & ~value == 0 and value & ~self._greatest == 0

    def __getitem__(self, index):
        places = self._open_places()
        if not is_integer_within(index, 0, (1 << len(places)) - 1):
            raise NoSuchIndex(index)
        bits = [(index >> number & 1) << place for number, place in enumerate(places)]
        return self._least + sum(bits)

    def __iter__(self):
        raise TypeError("a mask is not iterated over")

    def member_number(self, value):
        """The number of a member; raises NotInside for any other value."""
        if value not in self:
            raise NotInside(value)
        places = self._open_places()
        return sum([(value >> place & 1) << number for number, place in enumerate(places)])

    def next_member(self, value):
        """The least member that is at least an integer, None if there is none."""
        if value <= self._least:
            return self._least
        if value in self:
            return value
        # A greater member has 1 where the value has 0, at the lowest place that is possible,
        # and the bits of the value above that place.
        for place in range(self._width):
            low_bits = self._least & greatest_word(place)
            member = (value >> place | 1) << place | low_bits
            if member > value and member in self:
                return member
        return None

    def __and__(self, other):
        self._require_width_of(other)
        return Mask(self._width, self._least & other._least, self._greatest & other._greatest)

    def __or__(self, other):
        self._require_width_of(other)
        return Mask(self._width, self._least | other._least, self._greatest | other._greatest)

    def __xor__(self, other):
        self._require_width_of(other)
        bits = self._least ^ other._least
        return _mask_of(self._width, bits, self._open_bits() | other._open_bits())

    def __invert__(self):
        greatest = greatest_word(self._width)
        return Mask(self._width, greatest ^ self._greatest, greatest ^ self._least)

    def __add__(self, other):
        self._require_width_of(other)
        low = self._least + other._least
        high = self._greatest + other._greatest
        return _mask_of(self._width, low, low ^ high | self._open_bits() | other._open_bits())

    def __sub__(self, other):
        self._require_width_of(other)
        low = self._least - other._greatest
        high = self._greatest - other._least
        return _mask_of(self._width, low, low ^ high | self._open_bits() | other._open_bits())

    def __neg__(self):
        return Mask(self._width, 0, 0) - self

    def _require_shift(self, shift):
        """Raises an error if any value is not an amount by which the mask is shifted."""
        if not is_integer_within(shift, 0, self._width - 1):
            raise BadShift(shift)

    def __lshift__(self, shift):
        self._require_shift(shift)
        least = to_word(self._least << shift, self._width)
        return Mask(self._width, least, to_word(self._greatest << shift, self._width))

    def __rshift__(self, shift):
        self._require_shift(shift)
        return Mask(self._width, self._least >> shift, self._greatest >> shift)

    def signed_right(self, shift):
        """The narrowest mask of the members shifted to the right as signed values."""
        self._require_shift(shift)
        least = signed_value(self._least, self._width) >> shift
        greatest = signed_value(self._greatest, self._width) >> shift
        return Mask(self._width, to_word(least, self._width), to_word(greatest, self._width))

    def common_with(self, other):
        """The mask of the members that both have, None if there are none."""
        self._require_width_of(other)
        least = self._least | other._least
        greatest = self._greatest & other._greatest
        if least & ~greatest != 0:
            return None
        return Mask(self._width, least, greatest)

    def union_with(self, other):
        """The narrowest mask of the members of either."""
        self._require_width_of(other)
        return Mask(self._width, self._least & other._least, self._greatest | other._greatest)

    def is_within(self, other):
        """Whether each member is a member of the other mask."""
        self._require_width_of(other)
        return other._least & ~self._least == 0 and self._greatest & ~other._greatest == 0


def _mask_of(width, bits, open_bits):
    """The mask with these bits, modulo 2 to the power of the width, and these that are open."""
    least = to_word(bits & ~open_bits, width)
    return Mask(width, least, least | to_word(open_bits, width))
