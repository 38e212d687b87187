"""States: the rows that are held of each stream; marks, and states that are alike for everything that comes."""
from needrows.ask.logs import check_log, fits_entry, is_log, rings_among
from needrows.ask.questions import check_question, check_row, check_stream, fits
from needrows.base.numbers import is_whole
from needrows.errors import InvalidMark, InvalidOperation, InvalidRow, InvalidState, TooMany
from needrows.keep.later import Later

MAX_ROWS = 6


class State:
    """An ascending tuple of held rows for each stream of a question; it never changes."""

    def __init__(self, question, **rows):
        check_question(question)
        self._question = question
        self._rows = _held_table(question, rows)

    @classmethod
    def of(cls, question, rows):
        """Return the state with a dict from streams to the tuples of their rows."""
        check_question(question)
        return made_state(question, _held_table(question, rows))

    @property
    def question(self):
        """The question."""
        return self._question

    @property
    def rows(self):
        """The dict from all streams to the held rows."""
        return {stream: self._rows[stream] for stream in self._rows}

    def held(self, stream):
        """Return the ascending tuple of the held rows of a stream."""
        check_stream(self._question, stream)
        return self._rows[stream]

    def rings(self, log=()):
        """Return whether the log rings behind the state."""
        check_log(self._question, log)
        return self._rings_with(log)

    def _rings_with(self, log):
        """Return whether a checked log rings behind the state."""
        return rings_among(self._question, with_entries(self._rows, log))

    def with_log(self, log):
        """Return the state that holds the rows of the entries of a log, too."""
        check_log(self._question, log)
        return made_state(self._question, with_entries(self._rows, log))

    def without(self, stream, row):
        """Return the state without a held row."""
        check_row(self._question, stream, row)
        if row not in self._rows[stream]:
            raise InvalidRow("the row is not held")
        return made_state(self._question, _without(self._rows, stream, row))

    def __or__(self, other):
        if not isinstance(other, State) or self._question != other._question:
            raise InvalidOperation("not a state of an equal question")
        return made_state(self._question, both_held(self._rows, other._rows))

    def __len__(self):
        return len(entries_held(self._rows))

    def __contains__(self, value):
        return fits_entry(self._question, value) and value[1] in self._rows[value[0]]

    def __eq__(self, other):
        return isinstance(other, State) and self._question == other._question and self._rows == other._rows

    def __str__(self):
        return f"state with {len(entries_held(self._rows))} rows"


def made_state(question, table):
    """Return the state with a checked dict from all streams to ascending rows.

    The rows are put in behind its making, since a stream can be called as a parameter of `__init__`.
    """
    made = State(question)
    made._rows = table
    return made


def _held_table(question, value):
    """Return the dict from all streams to ascending rows for one from streams to rows, or raise an error."""
    if not isinstance(value, dict) or not all([stream in question for stream in value]):
        raise InvalidState("not a dict from streams to tuples of rows")
    for stream, rows in value.items():
        if not isinstance(rows, tuple) or not all([fits(question, stream, row) for row in rows]):
            raise InvalidState("not a dict from streams to tuples of rows")
    return {stream: tuple(sorted(set(value.get(stream, ())))) for stream in question.streams}


def with_entries(table, log):
    """Return the dict from all streams to ascending rows that has the rows of the entries of a log, too."""
    if not log:
        return table
    return {stream: _more(table[stream], [row for name, row in log if name == stream]) for stream in table}


def _more(held, rows):
    """Return the ascending tuple of held rows and more rows."""
    return tuple(sorted(set(rows + list(held)))) if rows else held


def both_held(table, other):
    """Return the dict from all streams to the ascending rows of two such dicts."""
    return {stream: tuple(sorted(set(table[stream] + other[stream]))) for stream in table}


def _without(table, stream, row):
    """Return the dict from all streams to their rows without a row of one of them."""
    return {**table, stream: tuple([one for one in table[stream] if one != row])}


def entries_held(table):
    """Return the tuple of the entries of a dict from all streams to ascending rows."""
    return tuple([(stream, row) for stream in table for row in table[stream]])


def check_state(value):
    """Raise an error unless a value is a state."""
    if not isinstance(value, State):
        raise InvalidState("not a state")


def is_mark(question, value):
    """Return whether the value is a mark."""
    check_question(question)
    return _is_mark(question, value)


def _is_mark(question, value):
    """Return whether a value is a mark of a question that is one."""
    if not isinstance(value, tuple) or len(value) < 2 or value[1] not in question:
        return False
    if len(value) == 2:
        return value[0] == "shut"
    if len(value) != 4 or value[0] != "from":
        return False
    return value[2] in question.columns_of(value[1]) and is_whole(value[3])


def _check_marks(question, marks):
    """Raise an error unless a value is a tuple of marks of a question."""
    if not isinstance(marks, tuple) or not all([_is_mark(question, mark) for mark in marks]):
        raise InvalidMark("not a tuple of marks")


def obeys(question, log, marks):
    """Return whether the log obeys the marks."""
    check_log(question, log)
    _check_marks(question, marks)
    return _obeys(question, log, marks)


def _obeys(question, log, marks):
    """Return whether a checked log obeys checked marks."""
    for mark in marks:
        rows = [row for stream, row in log if stream == mark[1]]
        if mark[0] == "shut":
            if rows:
                return False
        else:
            place = question.columns_of(mark[1]).index(mark[2])
            if not all([row[place] >= mark[3] for row in rows]):
                return False
    return True


def _check_two(first, second, marks):
    """Raise an error unless two states of one question are told, and marks of it."""
    check_state(first)
    check_state(second)
    _check_marks(first._question, marks)
    if first._question != second._question:
        raise InvalidOperation("the questions of the states differ")


def _check_few(many):
    """Raise an error if states have more rows than the limit."""
    if many > MAX_ROWS:
        raise TooMany(MAX_ROWS)


def are_alike(first, second, *, marks=()):
    """Return whether the same logs that obey the marks ring behind both states."""
    return parting_log(first, second, marks=marks) is None


def parting_log(first, second, *, marks=()):
    """Return any parting log, or None."""
    _check_two(first, second, marks)
    _check_few(len(first) + len(second))
    later = Later(first._question, entries_held(first._rows) + entries_held(second._rows), marks)
    return later.parting(first._rows, second._rows)


def is_parting_log(first, second, value, *, marks=()):
    """Return whether the value is a parting log."""
    _check_two(first, second, marks)
    question = first._question
    if not is_log(question, value) or len(value) >= len(question):
        return False
    if len({stream for stream, _ in value}) < len(value) or not _obeys(question, value, marks):
        return False
    return first._rings_with(value) != second._rings_with(value)


def spare_rows(state, *, marks=()):
    """Return the ascending tuple of the entries of the spare rows."""
    later = _later(state, marks)
    table = state._rows
    spare = [entry for entry in entries_held(table) if later.parting(table, _without(table, *entry)) is None]
    return tuple(spare)


def _later(state, marks):
    """Return what can come behind a state, or raise an error for its parts."""
    check_state(state)
    _check_marks(state._question, marks)
    _check_few(len(state))
    return Later(state._question, entries_held(state._rows), marks)


def lean(state, *, marks=()):
    """Return the state without each row that is spare in what is left, streams and rows ascending."""
    later = _later(state, marks)
    left = state._rows
    for entry in entries_held(state._rows):
        fewer = _without(left, *entry)
        if later.parting(left, fewer) is None:
            left = fewer
    return made_state(state._question, left)


def is_lean(state, *, marks=()):
    """Return whether no row of the state is spare."""
    return spare_rows(state, marks=marks) == ()
