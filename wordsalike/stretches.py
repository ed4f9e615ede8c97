"""Stretches: words that follow one another, perhaps around the end."""

from wordsalike.divisible import opposite_of
from wordsalike.errors import BadCount, BadWidth, BadWord, NoSuchIndex, UnequalWidths
from wordsalike.lines import least_on_line
from wordsalike.words import greatest_word, is_integer_within, is_width, is_word, to_word, twos_in


class Stretch:
    """A first word and the number of the words."""

    def __init__(self, width, first, count):
        if not is_width(width):
            raise BadWidth(width)
        if not is_word(first, width):
            raise BadWord(first)
        if not is_integer_within(count, 1, 1 << width):
            raise BadCount(count)
        self._width = width
        self._first = 0 if count == 1 << width else first
        self._extent = count

    @classmethod
    def narrowest(cls, width, words):
        """The narrowest stretch of one or more words."""
        ordered = sorted(set(words))
        before = [ordered[-1], *ordered[:-1]]
        # A narrowest stretch begins at one of the words and goes round to the one before it.
        extents = [(to_word(last - first, width) + 1, first) for first, last in zip(ordered, before)]
        extent, first = min(extents)
        return cls(width, first, extent)

    @property
    def width(self):
        """The width of the words."""
        return self._width

    @property
    def first(self):
        """The word with which the stretch begins."""
        return self._first

    @property
    def last(self):
        """The word with which the stretch ends."""
        return to_word(self._first + self._extent - 1, self._width)

    @property
    def extent(self):
        """The number of the words."""
        return self._extent

    @property
    def least(self):
        """The least word."""
        return self._pieces()[0][0]

    @property
    def greatest(self):
        """The greatest word."""
        return self._pieces()[-1][1]

    def _pieces(self):
        """A list of the (low, high) of one or two ranges of words, ascending."""
        end = self._first + self._extent - 1
        greatest = greatest_word(self._width)
        if end > greatest:
            return [(0, to_word(end, self._width)), (self._first, greatest)]
        return [(self._first, end)]

    def _require_width_of(self, other):
        """Raises an error if the other stretch has another width."""
        if self._width != other._width:
            raise UnequalWidths()

    def __str__(self):
        return f"{self._first}..{self.last} at {self._width} bits"

    def __eq__(self, other):
        return (isinstance(other, Stretch) and self._width == other._width
                and self._first == other._first and self._extent == other._extent)

    def __contains__(self, value):
        return is_word(value, self._width) and to_word(value - self._first, self._width) < self._extent

    def __getitem__(self, index):
        if not is_integer_within(index, 0, self._extent - 1):
            raise NoSuchIndex(index)
        return to_word(self._first + index, self._width)

    def __iter__(self):
        raise TypeError("a stretch is not iterated over")

    def __add__(self, other):
        self._require_width_of(other)
        return _stretch_of(self._width, self._first + other._first, self._extent + other._extent - 1)

    def __sub__(self, other):
        self._require_width_of(other)
        return _stretch_of(self._width, self._first - other.last, self._extent + other._extent - 1)

    def __neg__(self):
        return _stretch_of(self._width, -self.last, self._extent)

    def __invert__(self):
        return _stretch_of(self._width, -1 - self.last, self._extent)

    def common_with(self, other):
        """The tuple of none, one or two stretches of the words in both, ascending by first."""
        self._require_width_of(other)
        pairs = [(one, another) for one in self._pieces() for another in other._pieces()]
        ranges = [(max(one[0], another[0]), min(one[1], another[1])) for one, another in pairs]
        return _joined(self._width, sorted([(low, high) for low, high in ranges if low <= high]))

    def union_with(self, other):
        """The narrowest stretch of the words in either."""
        self._require_width_of(other)
        # It goes from the first word of one to the last word of one, or it is that of all words.
        candidates = [Stretch(self._width, 0, 1 << self._width)]
        for first in (self._first, other._first):
            for last in (self.last, other.last):
                candidates.append(_stretch_of(self._width, first, to_word(last - first, self._width) + 1))
        wide = [each for each in candidates if _is_around(each, self) and _is_around(each, other)]
        extent, first = min([(each.extent, each.first) for each in wide])
        return Stretch(self._width, first, extent)


def _stretch_of(width, first, extent):
    """The stretch from a first word, modulo 2 to the power of the width, with at most all words."""
    return Stretch(width, to_word(first, width), min(extent, 1 << width))


def _is_around(one, other):
    """Whether each word of the other stretch is in one."""
    if one.extent == 1 << one.width:
        return True
    return to_word(other.first - one.first, one.width) + other.extent <= one.extent


def _joined(width, ranges):
    """The tuple of the stretches of some ascending ranges (low, high); two may meet around the end."""
    greatest = greatest_word(width)
    if len(ranges) > 1 and ranges[0][0] == 0 and ranges[-1][1] == greatest:
        ranges = [*ranges[1:-1], (ranges[-1][0], ranges[0][1])]
    return tuple([Stretch(width, low, to_word(high - low, width) + 1) for low, high in ranges])


def _nearest(width, count, step):
    """The least of step * t modulo 2 to the power of the width, t from 1 to count - 1, and its t.

    These numbers are different from 0 and from one another.
    """
    least = least_on_line(count - 1, 1 << width, step, step)
    twos = twos_in(step)
    bits = width - twos
    return (least, to_word((least >> twos) * opposite_of(step >> twos, bits), bits))


def scaled_stretch(stretch, factor, number):
    """The narrowest stretch of factor * x + number for the words x of a stretch.

    The words lie on a line around a circle, one step apart. Between neighbors there are at most
    three gaps: that to the nearest word above, that to the nearest one below, and their sum.
    """
    width = stretch.width
    modulus = 1 << width
    step = to_word(factor, width)
    start = to_word(factor * stretch.first + number, width)
    count = 1 if step == 0 else min(stretch.extent, modulus >> twos_in(step))
    if count == 1:
        return Stretch(width, start, 1)
    above, up = _nearest(width, count, step)
    below, down = _nearest(width, count, modulus - step)
    # Behind gaps of each kind come the words with the indexes of a range.
    kinds = [(above, up, count), (below, 0, count - down), (above + below, count - down, up)]
    kinds = [(gap, begin, end) for gap, begin, end in kinds if begin < end]
    widest = max([gap for gap, _, _ in kinds])
    firsts = []
    for gap, begin, end in kinds:
        if gap == widest:
            firsts.append(least_on_line(end - begin, modulus, step, to_word(start + step * begin, width)))
    return _stretch_of(width, min(firsts), modulus - widest + 1)
