"""Kinds of a stream, and the rises of these kinds."""
from needrows.ask.questions import check_rows, check_stream, fits
from needrows.base.numbers import is_whole
from needrows.errors import InvalidKind, InvalidOperation

STAY_WORD = "stay"
UP_WORD = "up"
DOWN_WORD = "down"
BELOW_SIDE = "below"
ABOVE_SIDE = "above"
LEAST_UNIFORM = 3


def is_kind(question, stream, value):
    """Return whether the value is a kind of the stream."""
    check_stream(question, stream)
    return _is_kind(question, stream, value)


def _is_kind(question, stream, value):
    """Return whether a value is a kind of a stream that is there."""
    if not isinstance(value, tuple) or len(value) != 3:
        return False
    below, at, above = value
    if not _are_items(below) or not _are_pairs(at, question.points) or not _are_items(above):
        return False
    items = (*below, *above)
    columns = [column for column, _ in at]
    columns.extend([column for item in items for column in columns_in(item)])
    if sorted(columns) != sorted(question.columns_of(stream)) or not _goes_up(items):
        return False
    return below == () or question.points != ()


def check_kind(question, stream, kind):
    """Raise an error unless the third value is a kind of the stream."""
    check_stream(question, stream)
    if not _is_kind(question, stream, kind):
        raise InvalidKind("not a kind of the stream")


def _are_pairs(value, points):
    """Whether a value is an ascending tuple of pairs of a column and a point."""
    if not isinstance(value, tuple) or not all([isinstance(pair, tuple) and len(pair) == 2 for pair in value]):
        return False
    if not all([isinstance(column, str) and is_whole(point) and point in points for column, point in value]):
        return False
    return list(value) == sorted(set(value))


def _are_items(value):
    """Whether a value is a tuple of items."""
    return isinstance(value, tuple) and all([_is_item(item) for item in value])


def _is_item(value):
    """Whether a value has the form of an item."""
    if not isinstance(value, tuple) or len(value) != 2:
        return False
    word, inner = value
    if word == STAY_WORD:
        return _are_columns(inner)
    if word not in (UP_WORD, DOWN_WORD) or not isinstance(inner, tuple) or not inner:
        return False
    return all([_are_columns(group) for group in inner])


def _are_columns(value):
    """Whether a value is an ascending tuple of strings that is not empty."""
    if not isinstance(value, tuple) or not all([isinstance(column, str) for column in value]):
        return False
    return value != () and list(value) == sorted(set(value))


def _goes_up(items):
    """Return whether the first item that does not stay goes up."""
    for item in items:
        if item[0] != STAY_WORD:
            return item[0] == UP_WORD
    return False


def groups_of(item):
    """Return the tuple of the groups of an item; a "stay" item has one."""
    return (item[1],) if item[0] == STAY_WORD else item[1]


def columns_in(item):
    """Return the list of the columns of an item."""
    return [column for group in groups_of(item) for column in group]


def moving_items(kind):
    """Return the list of the "up" and "down" items of a kind, those of `below` first."""
    return [item for item in (*kind[0], *kind[2]) if item[0] != STAY_WORD]


def kinds(question, stream):
    """Yield all kinds of the stream, ascending."""
    check_stream(question, stream)
    yield from all_kinds(question, stream)


def all_kinds(question, stream):
    """Return the ascending list of all kinds of a stream."""
    sides = [BELOW_SIDE, ABOVE_SIDE, *question.points] if question.points else [ABOVE_SIDE]
    placings = [{}]
    for column in question.columns_of(stream):
        placings = [{**one, column: side} for one in placings for side in sides]
    return sorted([kind for placing in placings for kind in _kinds_placed(placing)])


def _kinds_placed(placing):
    """Return the list of the kinds with each column where a dict has it: below, above, or at a point."""
    below = _arrangements([column for column in placing if placing[column] == BELOW_SIDE])
    above = _arrangements([column for column in placing if placing[column] == ABOVE_SIDE])
    at = tuple(sorted([(column, placing[column]) for column in placing if is_whole(placing[column])]))
    return [(one, at, other) for one in below for other in above if _goes_up((*one, *other))]


def _arrangements(columns):
    """Return the list of all tuples of items in which each of at most two columns stands once."""
    if not columns:
        return [()]
    if len(columns) == 1:
        return [(item,) for item in _items_of(columns[0])]
    one, other = sorted(columns)
    found = [((STAY_WORD, (one, other)),)]
    for groups in (((one,), (other,)), ((other,), (one,)), ((one, other),)):
        found.append(((UP_WORD, groups),))
        found.append(((DOWN_WORD, groups),))
    for first in _items_of(one):
        for second in _items_of(other):
            found.append((first, second))
            found.append((second, first))
    return found


def _items_of(column):
    """Return the list of the items with one column."""
    return [(STAY_WORD, (column,)), (UP_WORD, ((column,),)), (DOWN_WORD, ((column,),))]


def number_of_kinds(question, stream):
    """Return the number of the kinds of the stream."""
    check_stream(question, stream)
    points = len(question.points)
    if len(question.columns_of(stream)) == 1:
        return 2 if points else 1
    return 4 * points + 30 if points else 11


def moving_columns(question, stream, kind):
    """Return the ascending tuple of the columns in "up" and "down" items."""
    check_kind(question, stream, kind)
    return tuple(sorted([column for item in moving_items(kind) for column in columns_in(item)]))


def is_rise(question, stream, kind, value):
    """Return whether the value is a rise of the kind."""
    check_kind(question, stream, kind)
    return _are_rows(question, stream, value) and are_rising(question, stream, kind, value)


def _are_rows(question, stream, value):
    """Whether a value is a tuple of rows of a stream that is there."""
    return isinstance(value, tuple) and all([fits(question, stream, row) for row in value])


def are_rising(question, stream, kind, rows):
    """Return whether a checked tuple of rows is a rise of a kind."""
    if not rows:
        return False
    below, at, above = kind
    places = places_of(question, stream)
    if not all([row[places[column]] == point for column, point in at for row in rows]):
        return False
    ranges = [_range(item, rows, places) for item in below]
    if question.points:
        ranges.append((question.points[0], question.points[-1]))
    ranges.extend([_range(item, rows, places) for item in above])
    if None in ranges:
        return False
    return all([one[1] < other[0] for one, other in zip(ranges, ranges[1:])])


def places_of(question, stream):
    """Return a dict from the columns of a stream to their positions."""
    return {column: place for place, column in enumerate(question.columns_of(stream))}


def _range(item, rows, places):
    """Return the least and the greatest number of an item in some rows, or None if they do not move as it says."""
    found = [_span(item, row, places) for row in rows]
    if None in found:
        return None
    for one, other in zip(found, found[1:]):
        if not _moves(item[0], one, other):
            return None
    return min(found[0][0], found[-1][0]), max(found[0][1], found[-1][1])


def _moves(word, span, later):
    """Return whether the numbers of an item move from a row to the next one as its word says."""
    if word == STAY_WORD:
        return span == later
    if word == UP_WORD:
        return span[1] < later[0]
    return span[0] > later[1]


def _span(item, row, places):
    """Return the least and the greatest number of an item in a row, or None if its groups are not as they must be."""
    numbers = []
    for group in groups_of(item):
        first = row[places[group[0]]]
        if not all([row[places[column]] == first for column in group]):
            return None
        if numbers and numbers[-1] >= first:
            return None
        numbers.append(first)
    return numbers[0], numbers[-1]


def kind_of(question, stream, rows):
    """Return the kind of which two or more rows, in this order, are a rise, or None."""
    _check_two_rows(question, stream, rows)
    return rising_kind(question, stream, rows)


def _check_two_rows(question, stream, rows):
    """Raise an error unless the third value is a tuple of two or more rows of the stream."""
    check_rows(question, stream, rows)
    if len(rows) < 2:
        raise InvalidOperation("fewer than two rows")


def rising_kind(question, stream, rows):
    """Return the kind of which two or more checked rows are a rise, or None."""
    placed = {BELOW_SIDE: [], ABOVE_SIDE: []}
    at = []
    first, second = rows[0], rows[1]
    for column, number, later in sorted(list(zip(question.columns_of(stream), first, second))):
        side = _side(question.points, number)
        if side in placed:
            placed[side].append((number, _word(number, later), column))
        else:
            at.append((column, side))
    for below in _likely(placed[BELOW_SIDE]):
        for above in _likely(placed[ABOVE_SIDE]):
            kind = (below, tuple(at), above)
            if _goes_up((*below, *above)) and are_rising(question, stream, kind, rows):
                return kind
    return None


def _word(number, later):
    """Return how a column moves from a number to the one in the next row."""
    if number == later:
        return STAY_WORD
    return UP_WORD if number < later else DOWN_WORD


def _likely(moves):
    """Return the list of the tuples of items that some columns on one side can have, by how they move first.

    The columns are in ascending order, at most two of them, each with its number in the first row and its word.
    """
    single = tuple([_item(word, ((column,),)) for _, word, column in sorted(moves)])
    if len(moves) < 2:
        return [single]
    (number, word, one), (another, other_word, other) = moves
    if word != other_word:
        return [single]
    if number == another:
        return [(_item(word, ((one, other),)),)]
    if word == STAY_WORD:
        return [single]
    low, high = (one, other) if number < another else (other, one)
    return [single, (_item(word, ((low,), (high,))),)]


def _item(word, groups):
    """Return the item with a word and groups; of those that stay the first group counts."""
    return (STAY_WORD, groups[0]) if word == STAY_WORD else (word, groups)


def _side(points, number):
    """Return where a number lies: below all points, above them, or at the point that it is."""
    if not points or number > points[-1]:
        return ABOVE_SIDE
    return BELOW_SIDE if number < points[0] else number


def rise_of(question, stream, rows):
    """Return a pair of a kind and the rows, in this order or reversed, which are a rise of it, or None."""
    _check_two_rows(question, stream, rows)
    return _rise_of(question, stream, rows)


def _rise_of(question, stream, rows):
    """Return the pair of a kind and its rise for some checked rows, or None."""
    for ordered in (rows, rows[::-1]):
        kind = rising_kind(question, stream, ordered)
        if kind is not None:
            return kind, ordered
    return None


def are_uniform(question, stream, value):
    """Return whether the value is a tuple of three or more uniform rows."""
    check_stream(question, stream)
    if not _are_rows(question, stream, value) or len(value) < LEAST_UNIFORM:
        return False
    # Three or more rows are uniform exactly if they are a rise, in this order or reversed.
    return _rise_of(question, stream, value) is not None
