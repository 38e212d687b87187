"""Rises that are found among some rows, and the needs that follow from them."""
from needrows.ask.logs import check_rest
from needrows.ask.questions import check_rows
from needrows.base.numbers import is_whole
from needrows.cover.regions import is_reason_beside
from needrows.errors import InvalidNumber, InvalidOperation, TooMany
from needrows.few.forget import most_beside
from needrows.rises.kinds import rising_kind
from needrows.rises.standard import check_index, is_clear_of, moved_rest, standard_rows

MAX_SEARCHED = 10
LEAST_RISING = 2


def rises_in(question, stream, rows, *, least=3):
    """Yield the pairs of a kind and the indices of some rows, so many at least, that are a rise of it."""
    check_rows(question, stream, rows)
    if not is_whole(least) or least < LEAST_RISING:
        raise InvalidNumber(least)
    _check_searched(rows)
    found = _all_rises(question, stream, rows)
    for kind, indices in found:
        if len(indices) >= least:
            yield (kind, indices)


def _check_searched(rows):
    """Raise an error if there are too many rows to try all sets of them."""
    if len(rows) > MAX_SEARCHED:
        raise TooMany(MAX_SEARCHED)


def _all_rises(question, stream, rows):
    """Return the list of the pairs of a kind and two or more ascending indices of a rise of it, by the indices."""
    pairs = _rising_pairs(question, stream, rows)
    found = []
    for first, second in sorted(pairs):
        kind = pairs[first, second]
        ahead = [later for later in range(second + 1, len(rows)) if pairs.get((first, later)) == kind]
        found.append((kind, (first, second)))
        found.extend([(kind, indices) for indices in _longer(pairs, (first, second), ahead)])
    return found


def _rising_pairs(question, stream, rows):
    """Return a dict from the pairs of ascending indices whose two rows are a rise to the kinds of these rises."""
    pairs = {}
    for second, later in enumerate(rows):
        for first, row in enumerate(rows[:second]):
            kind = rising_kind(question, stream, (row, later))
            if kind is not None:
                pairs[first, second] = kind
    return pairs


def _longer(pairs, begun, ahead):
    """Return the list of the indices of all rises that begin with some indices and go on with more, ascending.

    All rows are a rise of a kind exactly if each two of them are. The indices ahead are those of which each is a rise
    of this kind with all indices of the beginning, but perhaps for the last one.
    """
    found = []
    kind = pairs[begun[-2:]]
    fitting = [later for later in ahead if pairs.get((begun[-1], later)) == kind]
    for place, later in enumerate(fitting):
        longer = (*begun, later)
        found.append(longer)
        found.extend(_longer(pairs, longer, fitting[place + 1:]))
    return found


def longest_rise(question, stream, rows):
    """Return any pair of a kind and as many indices as possible, two or more, of a rise of it, or None."""
    check_rows(question, stream, rows)
    _check_searched(rows)
    found = _all_rises(question, stream, rows)
    return max(found, key=lambda pair: len(pair[1]), default=None)


def found_need(question, stream, rows, index, rest):
    """Return any need that stands to the rows of its standard rise as a reason does to three rows of a rise."""
    check_rows(question, stream, rows)
    check_index(index, len(rows))
    check_rest(question, stream, rest)
    kind = rising_kind(question, stream, rows) if len(rows) >= LEAST_RISING else None
    if kind is None:
        raise InvalidOperation("the rows are not a rise")
    side = most_beside(question, stream)
    if index < side or index + side >= len(rows):
        raise InvalidOperation("too few rows on one side")
    if not is_reason_beside(question, stream, rows[index], rest, rows[:index] + rows[index + 1:]):
        raise InvalidOperation("not a reason of the row beside the others")
    # Each integer of the rest lies in a span of one row at most: so there is a clear row among so many.
    front = [row for row in rows[index - side:index] if is_clear_of(question, stream, kind, row, rest)]
    behind = [row for row in rows[index + 1:index + side + 1] if is_clear_of(question, stream, kind, row, rest)]
    pairs = [(point, point) for point in question.points]
    for old, new in zip((front[-1], rows[index], behind[0]), standard_rows(question, stream, kind, 3)):
        pairs.extend(list(zip(old, new)))
    return ("need", kind, moved_rest(question, stream, rest, pairs))
