"""Questions: streams with their columns, and a condition on one row of each."""
from needrows.base.conditions import ALWAYS, MOST_COLUMNS, check_renaming, checked, holds_unchecked, is_condition
from needrows.base.conditions import points_in, points_of, renamed_unchecked
from needrows.base.numbers import are_names, are_whole
from needrows.errors import InvalidCondition, InvalidName, InvalidOperation, InvalidQuestion, InvalidRow
from needrows.errors import UnknownName

LEAST_STREAMS = 2
MOST_STREAMS = 4
MOST_OF_A_STREAM = 2


class Question:
    """Two to four streams with one or two columns each, and a condition; it never changes."""

    def __init__(self, condition, **streams):
        comparisons, columns = checked(condition)
        _check_streams(columns, streams)
        self._condition = condition
        self._table = _ascending(streams)
        self._points = points_in(comparisons)

    @classmethod
    def of(cls, condition, streams):
        """Return the question with a dict from streams to the tuples of their columns."""
        _, columns = checked(condition)
        _check_streams(columns, streams)
        return _question(condition, streams)

    @property
    def condition(self):
        """The condition."""
        return self._condition

    @property
    def streams(self):
        """The ascending tuple of all streams."""
        return tuple(self._table)

    @property
    def columns(self):
        """The ascending tuple of all columns."""
        return tuple(sorted(_columns_in(self._table)))

    @property
    def points(self):
        """The ascending tuple of the points of the condition."""
        return self._points

    def columns_of(self, stream):
        """Return the columns of a stream, in their order."""
        if stream not in self:
            raise UnknownName(stream)
        return self._table[stream]

    def others(self, stream):
        """Return the ascending tuple of the other streams."""
        if stream not in self:
            raise UnknownName(stream)
        return tuple([other for other in self._table if other != stream])

    def rest_columns(self, stream):
        """Return the columns of the other streams, one stream after the other."""
        return tuple([column for other in self.others(stream) for column in self._table[other]])

    def stream_of(self, column):
        """Return the stream that has a column."""
        for stream, columns in self._table.items():
            if column in columns:
                return stream
        raise UnknownName(column)

    def __call__(self, rows):
        """Return whether the condition holds with a dict from all streams to rows."""
        if not isinstance(rows, dict) or len(rows) != len(self._table):
            raise InvalidRow("not a dict from all streams to rows")
        if not all([stream in rows and fits(self, stream, rows[stream]) for stream in self._table]):
            raise InvalidRow("not a dict from all streams to rows")
        return holds_unchecked(self._condition, numbers_in(self, rows))

    def with_condition(self, condition):
        """Return the question with the same streams and another condition."""
        _, columns = checked(condition)
        _check_streams(columns, self._table)
        return _question(condition, self._table)

    def with_streams(self, **names):
        """Return the question with new names for streams, all at once."""
        return self.with_streams_by(names)

    def with_streams_by(self, names):
        """Return the question in which the streams that are keys of a dict have new names, all at once."""
        check_renaming(names, self.streams)
        table = {names.get(stream, stream): columns for stream, columns in self._table.items()}
        if len(table) < len(self._table):
            raise InvalidQuestion("two streams become equal")
        return _question(self._condition, table)

    def with_columns(self, **names):
        """Return the question with new names for columns, all at once."""
        return self.with_columns_by(names)

    def with_columns_by(self, names):
        """Return the question in which the columns that are keys of a dict have new names, all at once."""
        check_renaming(names, self.columns)
        table = {}
        for stream, columns in self._table.items():
            table[stream] = tuple([names.get(column, column) for column in columns])
        if len(set(_columns_in(table))) < len(self.columns):
            raise InvalidQuestion("two columns become equal")
        return _question(renamed_unchecked(self._condition, names), table)

    def __and__(self, other):
        return _both(self, "and", other)

    def __or__(self, other):
        return _both(self, "or", other)

    def __len__(self):
        return len(self._table)

    def __contains__(self, value):
        return isinstance(value, str) and value in self._table

    def __eq__(self, other):
        return isinstance(other, Question) and self._table == other._table and self._condition == other._condition

    def __str__(self):
        return f"question of {len(self._table)} streams, {len(self.columns)} columns"


def _question(condition, table):
    """Return the question with a checked condition and a checked dict from streams to columns.

    Its parts are put in behind its making, since a stream can be called as the object is in `__init__`.
    """
    made = Question(ALWAYS, a=("a",), b=("b",))
    made._condition = condition
    made._table = _ascending(table)
    made._points = points_of(condition)
    return made


def _both(one, word, other):
    """Return the question with the streams of two questions, and with their conditions joined by a word."""
    if not isinstance(other, Question) or one._table != other._table:
        raise InvalidOperation("not a question with equal streams and columns")
    condition = (word, one._condition, other._condition)
    if not is_condition(condition):
        raise InvalidCondition("too many parts, or too deep")
    return _question(condition, one._table)


def _ascending(streams):
    """Return a new dict with the streams in ascending order."""
    return {stream: streams[stream] for stream in sorted(streams)}


def _columns_in(table):
    """Return the list of all columns of a dict from streams to columns."""
    return [column for columns in table.values() for column in columns]


def _check_streams(used, streams):
    """Raise an error unless a value is a dict from streams to columns that suits the columns of a condition."""
    if not isinstance(streams, dict) or not are_names(streams):
        raise InvalidName("not a dict from names to tuples of names")
    for columns in streams.values():
        if not isinstance(columns, tuple) or not 1 <= len(columns) <= MOST_OF_A_STREAM or not are_names(columns):
            raise InvalidName("not a dict from names to tuples of one or two names")
    every = _columns_in(streams)
    if not LEAST_STREAMS <= len(streams) <= MOST_STREAMS or len(every) > MOST_COLUMNS:
        raise InvalidQuestion("too few or too many streams or columns")
    if len(set(every)) < len(every):
        raise InvalidQuestion("a column stands there twice")
    for column in used:
        if column not in every:
            raise InvalidQuestion("a column of the condition is in no stream")


def check_question(value):
    """Raise an error unless the value is a question."""
    if not isinstance(value, Question):
        raise InvalidQuestion("not a question")


def check_stream(question, stream):
    """Raise an error unless the first value is a question and the second one a stream of it."""
    check_question(question)
    if stream not in question:
        raise UnknownName(stream)


def fits(question, stream, value):
    """Whether a value is a row of a stream that is there."""
    return are_whole(value) and len(value) == len(question._table[stream])


def check_row(question, stream, row):
    """Raise an error unless the third value is a row of the stream."""
    check_stream(question, stream)
    if not fits(question, stream, row):
        raise InvalidRow("not a row of the stream")


def check_rows(question, stream, rows):
    """Raise an error unless the third value is a tuple of rows of the stream."""
    check_stream(question, stream)
    if not isinstance(rows, tuple) or not all([fits(question, stream, row) for row in rows]):
        raise InvalidRow("not a tuple of rows of the stream")


def numbers_in(question, rows):
    """Return the dict from columns to integers of a checked dict from streams to rows."""
    numbers = {}
    for stream, row in rows.items():
        for column, number in zip(question._table[stream], row):
            numbers[column] = number
    return numbers
