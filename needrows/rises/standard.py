"""The standard rise of each kind, and how rests lie to the rows of a rise."""
from needrows.ask.logs import check_rest, told_by
from needrows.ask.questions import check_rows
from needrows.base.numbers import is_whole
from needrows.cover.rests import numbers_of, rest_of
from needrows.errors import InvalidNumber, InvalidOperation
from needrows.rises.kinds import are_rising, check_kind, columns_in, groups_of, moving_items, places_of

MOST_ROWS = 60
STEP = 4


def standard_rise(question, stream, kind, many):
    """Return the standard rise of the kind with so many rows."""
    check_kind(question, stream, kind)
    _check_many(many)
    return standard_rows(question, stream, kind, many)


def _check_many(many):
    """Raise an error unless a value is a number of rows that a standard rise can have."""
    if not is_whole(many) or not 1 <= many <= MOST_ROWS:
        raise InvalidNumber(many)


def standard_rows(question, stream, kind, many):
    """Return the standard rise of a kind with so many rows; nothing is checked."""
    below, at, above = kind
    numbers = {column: [point] * many for column, point in at}
    points = question.points
    if below:
        ranks, total = _ranks(below, many)
        numbers.update(_spread(ranks, points[0] - STEP * total))
    ranks, _ = _ranks(above, many)
    numbers.update(_spread(ranks, points[-1] + STEP if points else 0))
    columns = question.columns_of(stream)
    return tuple([tuple([numbers[column][place] for column in columns]) for place in range(many)])


def _ranks(items, many):
    """Return a dict from the columns of items to their ranks in each row, and how many ranks there are."""
    ranks = {}
    total = 0
    for item in items:
        groups = groups_of(item)
        steps = _steps(item[0], many)
        for place, group in enumerate(groups):
            for column in group:
                ranks[column] = [total + step * len(groups) + place for step in steps]
        total = total + (max(steps) + 1) * len(groups)
    return ranks, total


def _steps(word, many):
    """Return the list of the steps that an item with this word takes in each of so many rows."""
    if word == "stay":
        return [0] * many
    steps = list(range(many))
    return steps if word == "up" else steps[::-1]


def _spread(ranks, first):
    """Return the dict of ranks with numbers instead of these, from the first one on."""
    return {column: [first + STEP * rank for rank in ranks[column]] for column in ranks}


def check_index(index, many):
    """Raise an error unless a value is the index of one of so many rows."""
    if not is_whole(index) or not 0 <= index < many:
        raise InvalidNumber(index)


def check_rising(question, stream, kind, rows):
    """Raise an error unless some checked rows are a rise of a kind."""
    if not are_rising(question, stream, kind, rows):
        raise InvalidOperation("the rows are not a rise of the kind")


def spans(question, stream, kind, rows, index):
    """Return the tuple of the pairs (least, greatest) of a row of a rise, one for each "up" or "down" item."""
    check_kind(question, stream, kind)
    check_rows(question, stream, rows)
    check_index(index, len(rows))
    check_rising(question, stream, kind, rows)
    return tuple(spans_of(question, stream, kind, rows[index]))


def spans_of(question, stream, kind, row):
    """Return the list of the spans of a row of a rise of a kind."""
    places = places_of(question, stream)
    numbers = [[row[places[column]] for column in columns_in(item)] for item in moving_items(kind)]
    return [(min(found), max(found)) for found in numbers]


def is_clear(question, stream, kind, rows, index, rest):
    """Return whether the rest is clear of a row of a rise."""
    check_kind(question, stream, kind)
    check_rows(question, stream, rows)
    check_index(index, len(rows))
    check_rest(question, stream, rest)
    check_rising(question, stream, kind, rows)
    return is_clear_of(question, stream, kind, rows[index], rest)


def is_clear_of(question, stream, kind, row, rest):
    """Return whether no integer of a rest lies in a span of a row of a rise of a kind."""
    numbers = numbers_of(question, stream, rest)
    found = spans_of(question, stream, kind, row)
    return not any([least <= number <= greatest for least, greatest in found for number in numbers])


def which_ring(question, stream, rows, rest):
    """Return a tuple that tells for each row whether it rings with the rest."""
    check_rows(question, stream, rows)
    check_rest(question, stream, rest)
    return tuple(told_by(question, stream, rows, rest))


def placed_about(question, stream, kind, rest, many, index):
    """Return any rest that is placed about the row at the index of the standard rise with so many rows."""
    check_kind(question, stream, kind)
    check_rest(question, stream, rest)
    _check_many(many)
    check_index(index, many)
    three = standard_rows(question, stream, kind, 3)
    for row in three[::2]:
        if not is_clear_of(question, stream, kind, row, rest):
            raise InvalidOperation("the rest is not clear of the first and the third row")
    return placed_rest(question, stream, rest, three, standard_rows(question, stream, kind, many), index)


def placed_rest(question, stream, rest, three, rows, index):
    """Return a rest that is placed about the row at an index of a standard rise; nothing is checked.

    Beside the rest it is told the standard rise of three rows of the kind, and the one that the index belongs to.
    """
    first, middle, third = three
    pairs = [(point, point) for point in question.points]
    pairs.extend(list(zip(middle, rows[index])))
    # Each column goes one way, if it does not stay: so the nearest and the farthest row bound those between them.
    if index > 0:
        pairs.extend(list(zip(first + first, rows[0] + rows[index - 1])))
    if index + 1 < len(rows):
        pairs.extend(list(zip(third + third, rows[index + 1] + rows[-1])))
    return moved_rest(question, stream, rest, pairs)


def moved_rest(question, stream, rest, pairs):
    """Return a rest that compares in itself and with new integers as one does with the old ones; nothing is checked.

    The pairs are those of an old integer and a new one. Between new ones there is room where it is needed.
    """
    numbers = numbers_of(question, stream, rest)
    moved = _moved(sorted(set(numbers)), pairs)
    return rest_of(question, stream, [moved[number] for number in numbers])


def _moved(numbers, pairs):
    """Return a dict from ascending integers to others, which compare with the new integers as they do with the old."""
    moved = {}
    gaps = {}
    for number in numbers:
        same = [new for old, new in pairs if old == number]
        if same:
            moved[number] = same[0]
        else:
            low = max([new for old, new in pairs if old < number], default=None)
            high = min([new for old, new in pairs if old > number], default=None)
            gaps.setdefault((low, high), []).append(number)
    for (low, high), inside in gaps.items():
        first = high - len(inside) if low is None else low + 1
        for step, number in enumerate(inside):
            moved[number] = first + step
    return moved
