"""Needs: rests that ring with one row of a rise alone, so that its rows must be kept."""
from needrows.ask.logs import is_rest, told_by
from needrows.ask.questions import check_stream
from needrows.base.choices import members
from needrows.cover.rests import Rests
from needrows.few.threes import Threes
from needrows.rises.kinds import check_kind, is_kind
from needrows.rises.standard import is_clear_of, spans_of, standard_rows


def is_need(question, stream, value):
    """Return whether the value is a need of the stream."""
    check_stream(question, stream)
    if not isinstance(value, tuple) or len(value) != 3 or value[0] != "need":
        return False
    _, kind, rest = value
    return is_kind(question, stream, kind) and is_rest(question, stream, rest) and _needs(question, stream, kind, rest)


def _needs(question, stream, kind, rest):
    """Return whether a kind and a checked rest are a need."""
    three = standard_rows(question, stream, kind, 3)
    if told_by(question, stream, three, rest) != [False, True, False]:
        return False
    return all([is_clear_of(question, stream, kind, row, rest) for row in three[::2]])


def needs(question, stream, kind):
    """Yield the needs of the kind with plain rests of its standard rise of three rows, ascending by these."""
    check_kind(question, stream, kind)
    three = standard_rows(question, stream, kind, 3)
    rests = Rests(question, stream, three)
    found = _needing(question, stream, kind, rests, three)
    if found:
        found = found & rests.plain()
    for number in members(found):
        yield ("need", kind, rests.rest_at(number))


def _needing(question, stream, kind, rests, three):
    """Return the set of those of the rests that make needs of a kind, by its standard rise of three rows."""
    first, middle, third = three
    found = rests.region(middle)
    for row in (first, third):
        found = found & (found ^ rests.region(row))
        found = found & rests.clear_of(spans_of(question, stream, kind, row))
    return found


def any_need(question, stream):
    """Return any need of the stream, or None."""
    check_stream(question, stream)
    threes = Threes(question, stream)
    for kind in threes.every_kind():
        found = threes.needing(kind)
        if found:
            return ("need", kind, threes.rest_in(found))
    return None


def long_rise(question, stream, kind):
    """Return the long rise of the kind."""
    check_kind(question, stream, kind)
    return long_rows(question, stream, kind)


def long_rows(question, stream, kind):
    """Return the long rise of a checked kind."""
    side = len(question.rest_columns(stream)) + 1
    return standard_rows(question, stream, kind, 2 * side + 1)


def ringing(question, stream, kind):
    """Yield the plain rests of the long rise that ring with its middle row, with the nearest rows on both sides."""
    check_kind(question, stream, kind)
    rows = long_rows(question, stream, kind)
    middle = len(rows) // 2
    rests = Rests(question, stream, rows)
    regions = [rests.region(row) for row in rows]
    front = _digits(regions[:middle][::-1])
    behind = _digits(regions[middle + 1:])
    found = regions[middle] & rests.plain()
    for number in members(found):
        yield (rests.rest_at(number), _nearest(front, number), _nearest(behind, number))


def _digits(regions):
    """Return the list of the binary digits of some regions, those of the least numbers first."""
    return [f"{region:b}"[::-1] for region in regions]


def _nearest(side, number):
    """Return the least number of steps to a row that rings with the rest with a number, or None."""
    for place, digits in enumerate(side):
        if digits[number:number + 1] == "1":
            return place + 1
    return None
