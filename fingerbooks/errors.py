"""The errors of the package, one class for each kind of failure."""


class SpanError(ValueError):
    """A value that is not of the kind that is asked for."""


class InvalidForm(SpanError):
    """A value that is no pair or no form."""


class InvalidRow(SpanError):
    """A value that is no row, or no right one."""


class InvalidReader(SpanError):
    """A value that is no reader, or tells none."""


class InvalidPage(SpanError):
    """A value that is no page, or tells none."""


class InvalidBook(SpanError):
    """A value that is no book, or tells none."""


class InvalidPlace(SpanError):
    """A value that is no place in a row."""


class InvalidSequence(SpanError):
    """A value that is no sequence."""


class InvalidPlan(SpanError):
    """A value that is no plan."""


class InvalidPaper(SpanError):
    """A value that is no paper."""


class InvalidOperation(SpanError):
    """A value with which an operation cannot be done."""


class ParseError(SpanError):
    """A text, or one of several, that is none of its kind."""

    def __init__(self, number):
        self.number = number


class UnknownName(KeyError):
    """A value that is looked up and is not there."""

    def __init__(self, word):
        self.word = word


class EmptySequence(LookupError):
    """A take from what has no elements."""

    def __init__(self, tried):
        self.tried = tried


class InvalidNumber(IndexError):
    """A value that is none of the numbers that may stand there."""

    def __init__(self, value):
        self.value = value


class NothingToUndo(RuntimeError):
    """More steps are to be taken back, or done again, than there are."""

    def __init__(self, many):
        self.many = many


class TooMany(OverflowError):
    """More things than a limit allows."""

    def __init__(self, limit):
        self.limit = limit


class Refused(ArithmeticError):
    """A change with which a pledge would not hold."""

    def __init__(self, pledge):
        self.pledge = pledge


class Broken(ArithmeticError):
    """A deed that fails, with the row ahead of it."""

    def __init__(self, row):
        self.row = row
