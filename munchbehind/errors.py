"""All errors of the package."""


class CoverError(ValueError):
    """A value that has not the form that is asked for."""


class InvalidOperators(CoverError):
    """No operators with arities."""


class InvalidTree(CoverError):
    """No tree, or no context, for the operators."""


class InvalidBook(CoverError):
    """No book of rules."""


class InvalidCover(CoverError):
    """No cover of the tree."""


class InvalidKind(CoverError):
    """No kind of a tree."""


class InvalidState(CoverError):
    """No pair state."""


class InvalidPaper(CoverError):
    """Nothing that has the form of a paper."""


class InvalidOperation(CoverError):
    """Something that cannot be asked for here."""


class ParseError(CoverError):
    """A text that is none; number is the index of its line, or None."""

    def __init__(self, number):
        self.number = number


class UnknownName(KeyError):
    """A word that is not among the names."""

    def __init__(self, word):
        self.word = word


class NotCovered(LookupError):
    """A tree without a cover."""

    def __init__(self, uncovered):
        self.uncovered = uncovered


class InvalidNumber(IndexError):
    """A value that is none of the numbers that are let."""

    def __init__(self, value):
        self.value = value


class NothingToUndo(RuntimeError):
    """Fewer changes than are to be taken back or done again."""

    def __init__(self, many):
        self.many = many


class TooMany(OverflowError):
    """More than the limit."""

    def __init__(self, limit):
        self.limit = limit


class Stuck(ArithmeticError):
    """A place at which no rule fits."""

    def __init__(self, place):
        self.place = place


class Refused(ArithmeticError):
    """A pledge that would not hold."""

    def __init__(self, pledge):
        self.pledge = pledge
