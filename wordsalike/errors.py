"""The errors of the package. Each one keeps its fields unchanged, under their names."""


class WordError(ValueError):
    """Something that is asked for does not exist, or an argument is not as required."""


class TooLarge(WordError):
    """Something would be greater than its limit."""

    def __init__(self, limit):
        self.limit = limit


class TooDeep(WordError):
    """An expression would be nested deeper than its limit."""

    def __init__(self, limit):
        self.limit = limit


class ParseError(WordError):
    """A text is wrong at a place, or the value is no text: then the place is None."""

    def __init__(self, place):
        self.place = place


class Even(WordError):
    """A number has no opposite, as it is even."""

    def __init__(self, number):
        self.number = number


class NoDivisor(WordError):
    """A value is no divisor of this width."""

    def __init__(self, value):
        self.value = value


class BadWord(WordError):
    """A value is no word of this width."""

    def __init__(self, value):
        self.value = value


class UnequalWidths(WordError):
    """Two values have different widths."""


class NotPermutation(WordError):
    """A polynomial does not permute the words; the value shows it."""

    def __init__(self, value):
        self.value = value


class BadPolynomial(WordError):
    """A value is no polynomial."""

    def __init__(self, value):
        self.value = value


class BadWidth(WordError):
    """A value is no width."""

    def __init__(self, value):
        self.value = value


class NotMix(WordError):
    """An expression is no mix; the path leads to the node that makes it none."""

    def __init__(self, path):
        self.path = path


class NotBitwise(WordError):
    """A mix is not bitwise: that on the left has the index 0, the other one 1."""

    def __init__(self, index):
        self.index = index


class NotReversible(WordError):
    """A mix is not reversible in a name."""

    def __init__(self, name):
        self.name = name


class BadMask(WordError):
    """The least member has bits that the greatest one has not."""

    def __init__(self, bits):
        self.bits = bits


class BadCount(WordError):
    """A stretch cannot have so many words."""

    def __init__(self, number):
        self.number = number


class BadShift(WordError):
    """A value is no amount by which a mask is shifted."""

    def __init__(self, shift):
        self.shift = shift


class NotInside(WordError):
    """A value is no member of a mask."""

    def __init__(self, value):
        self.value = value


class BadProgram(WordError):
    """A value is no program; the fault tells why."""

    def __init__(self, fault):
        self.fault = fault


class BadStep(WordError):
    """A value is no step that can be taken; the reason tells why."""

    def __init__(self, reason):
        self.reason = reason


class UnlikePrograms(WordError):
    """Two programs do not fit each other in their outs."""


class BadInput(WordError):
    """A value is no input."""


class TooMany(WordError):
    """There would be more programs than the limit."""

    def __init__(self, limit):
        self.limit = limit


class TooManyActions(WordError):
    """A store keeps no further action."""


class Busy(WordError):
    """A store is asked for an action within a batch of its own."""


class NothingToUndo(WordError):
    """No action is kept that can be undone."""


class InvalidBatch(WordError):
    """A value is no batch."""


class BatchFailed(WordError):
    """The action with this index in a batch raised an error."""

    def __init__(self, index):
        self.index = index


class TooLong(WordError):
    """A store would have so many rows, more than its bound."""

    def __init__(self, size):
        self.size = size


class NoSuchIndex(LookupError):
    """A value is no index here."""

    def __init__(self, index):
        self.index = index


class NoSuchPattern(LookupError):
    """A value is no pattern."""

    def __init__(self, pattern):
        self.pattern = pattern


class NoSuchProgram(LookupError):
    """A value is no index of a program."""

    def __init__(self, index):
        self.index = index


class NoSuchStep(LookupError):
    """A value is no number of kept actions."""

    def __init__(self, number):
        self.number = number
