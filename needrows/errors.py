"""The errors that the package raises."""


class RowsError(ValueError):
    """What is common to all errors that take a message."""


class InvalidName(RowsError):
    """A value is not a name."""


class InvalidCondition(RowsError):
    """A value is not a condition."""


class InvalidQuestion(RowsError):
    """A value is not a question, or no question can be made of it."""


class InvalidRow(RowsError):
    """A value is not a row, or not a tuple of rows."""


class InvalidLog(RowsError):
    """A value is not a log."""


class InvalidKind(RowsError):
    """A value is not a kind."""


class InvalidRest(RowsError):
    """A value is not a rest."""


class InvalidState(RowsError):
    """A value is not a state, or no state can be made of it."""


class InvalidMark(RowsError):
    """A value is not a tuple of marks."""


class InvalidOperation(RowsError):
    """Something cannot be done with these values."""


class ParseError(RowsError):
    """A text is not that of a value."""


class InvalidCommand(RowsError):
    """A line is not a command."""


class InvalidNumber(IndexError):
    """A number is not among the numbers that are possible."""

    def __init__(self, value):
        self.value = value


class UnknownName(KeyError):
    """A name is not among the names that are known."""

    def __init__(self, name):
        self.name = name


class TooMany(OverflowError):
    """There are more than the limit allows."""

    def __init__(self, limit):
        self.limit = limit


class NothingToUndo(LookupError):
    """There are not so many steps that could be undone."""

    def __init__(self, many):
        self.many = many
