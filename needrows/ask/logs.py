"""Rows, entries, logs and rests of a question, and what rings."""
from needrows.ask.questions import check_question, check_row, check_stream, fits, numbers_in
from needrows.base.choices import Choices, members
from needrows.base.conditions import holds_unchecked
from needrows.errors import InvalidLog, InvalidRest

MOST_ENTRIES = 200


def is_row(question, stream, value):
    """Whether the value is a row of the stream."""
    check_stream(question, stream)
    return fits(question, stream, value)


def is_entry(question, value):
    """Whether the value is an entry: a pair of a stream and a row of it."""
    check_question(question)
    return fits_entry(question, value)


def fits_entry(question, value):
    """Whether a value is an entry of a question that is one."""
    if not isinstance(value, tuple) or len(value) != 2:
        return False
    stream, row = value
    return stream in question and fits(question, stream, row)


def is_log(question, value):
    """Whether the value is a log: a tuple of entries that are not too many."""
    check_question(question)
    if not isinstance(value, tuple) or len(value) > MOST_ENTRIES:
        return False
    return all([fits_entry(question, entry) for entry in value])


def check_log(question, log):
    """Raise an error unless the second value is a log of the question."""
    if not is_log(question, log):
        raise InvalidLog("not a log of the question")


def is_rest(question, stream, value):
    """Whether a value is a rest of a stream that is there: a dict from all other streams to rows."""
    others = question.others(stream)
    if not isinstance(value, dict) or len(value) != len(others):
        return False
    return all([other in value and fits(question, other, value[other]) for other in others])


def check_rest(question, stream, rest):
    """Raise an error unless the third value is a rest of a stream that is there."""
    if not is_rest(question, stream, rest):
        raise InvalidRest("not a rest of the stream")


def rows_of(question, stream, log):
    """Return the ascending tuple of the different rows that a stream has in the log."""
    check_stream(question, stream)
    check_log(question, log)
    return _rows_of(stream, log)


def _rows_of(stream, log):
    """Return the ascending tuple of the different rows of a stream in a checked log."""
    return tuple(sorted({row for name, row in log if name == stream}))


def entries_of(question, stream, rest):
    """Return the log of the rows of a rest, its streams ascending."""
    check_stream(question, stream)
    check_rest(question, stream, rest)
    return entries_in(question, stream, rest)


def entries_in(question, stream, rest):
    """Return the log of the rows of a checked rest, its streams ascending."""
    return tuple([(other, rest[other]) for other in question.others(stream)])


def matches(question, log):
    """Yield all matches whose rows are entries of the log, each once, ascending by the tuples of their rows."""
    check_log(question, log)
    first, *others = question.streams
    held = {stream: _rows_of(stream, log) for stream in question.streams}
    if not all([held[stream] for stream in held]):
        return
    choices = Choices([(question.columns_of(stream), held[stream]) for stream in others])
    # One set of choices for each row of the first stream: so the first match is found without the sets of the rest.
    for row in held[first]:
        numbers = dict(zip(question.columns_of(first), row))
        found = choices.where(question.condition, numbers)
        for number in members(found):
            rows = [row, *choices.rows_at(number)]
            yield dict(zip(question.streams, rows))


def rings(question, log):
    """Return whether the log rings."""
    for _ in matches(question, log):
        return True
    return False


def rings_among(question, held):
    """Return whether some rows ring, by a dict from all streams to their ascending rows; nothing is checked."""
    if not all([held[stream] for stream in held]):
        return False
    fewest = min([(len(held[stream]), stream) for stream in held])[1]
    choices = Choices([(question.columns_of(stream), held[stream]) for stream in held if stream != fewest])
    columns = question.columns_of(fewest)
    for row in held[fewest]:
        if choices.where(question.condition, dict(zip(columns, row))) != 0:
            return True
    return False


def first_ring(question, log):
    """Return the least index such that the entries up to it, it included, ring, or None."""
    if not rings(question, log):
        return None
    # If a part of a log rings, so does the log; so the index is found by halving.
    low = 0
    high = len(log) - 1
    while low < high:
        middle = (low + high) // 2
        if rings(question, log[:middle + 1]):
            high = middle
        else:
            low = middle + 1
    return low


def rest_rings(question, stream, row, rest):
    """Return whether the row rings with the rest."""
    check_row(question, stream, row)
    check_rest(question, stream, rest)
    return told_by(question, stream, (row,), rest)[0]


def told_by(question, stream, rows, rest):
    """Return the list that tells for each of some rows whether it rings with a rest; nothing is checked."""
    columns = question.columns_of(stream)
    numbers = numbers_in(question, rest)
    told = []
    for row in rows:
        for column, number in zip(columns, row):
            numbers[column] = number
        told.append(holds_unchecked(question.condition, numbers))
    return told
