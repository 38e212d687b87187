"""Rows that are covered by other rows: their regions, and reasons to keep them."""
from needrows.ask.logs import is_rest, told_by
from needrows.ask.questions import check_row, check_rows, fits
from needrows.base.choices import joined
from needrows.base.numbers import Line
from needrows.cover.rests import Rests, check_few, given_numbers, is_within, lean_cover, rest_of
from needrows.errors import InvalidRow


def rests_among(question, stream, rows):
    """Yield one rest of each order among the rows."""
    check_rows(question, stream, rows)
    check_few(question, stream, rows)
    line = Line.of(tuple(given_numbers(question, rows)))
    many = len(question.rest_columns(stream))
    for numbers in line.placements(many):
        yield rest_of(question, stream, numbers)


def reason(question, stream, row, *, beside=()):
    """Return any reason of the row beside these rows, or None if it is covered by them."""
    _check_rows_about(question, stream, row, beside)
    return found_reason(question, stream, row, beside)


def found_reason(question, stream, row, others):
    """Return any reason of a checked row beside checked others, or None."""
    rests = Rests(question, stream, (row, *others))
    region = rests.region(row)
    for one in others:
        region = region & (region ^ rests.region(one))
    return rests.first_of(region) if region else None


def _check_rows_about(question, stream, row, others):
    """Raise an error unless a row and a tuple of rows are right, and not too many."""
    check_row(question, stream, row)
    check_rows(question, stream, others)
    check_few(question, stream, (row, *others))


def is_reason(question, stream, row, value, *, beside=()):
    """Return whether the value is a reason of the row beside these rows."""
    check_row(question, stream, row)
    check_rows(question, stream, beside)
    return is_reason_beside(question, stream, row, value, beside)


def is_reason_beside(question, stream, row, value, others):
    """Return whether a value is a reason of a checked row beside checked others."""
    if not is_rest(question, stream, value):
        return False
    first, *told = told_by(question, stream, (row, *others), value)
    return first and True not in told


def is_covered(question, stream, row, *, by=()):
    """Return whether the row is covered by these rows."""
    _check_rows_about(question, stream, row, by)
    rests = Rests(question, stream, (row, *by))
    regions = rests.regions(by)
    return is_within(rests.region(row), [regions[one] for one in regions])


def least_cover(question, stream, row, *, by=()):
    """Return any ascending tuple of some of these rows, none of which can be left out, that covers the row, or None."""
    _check_rows_about(question, stream, row, by)
    rests = Rests(question, stream, (row, *by))
    region = rests.region(row)
    regions = rests.regions(by)
    if not is_within(region, [regions[one] for one in regions]):
        return None
    return tuple(lean_cover(region, regions))


def compared(question, stream, row, other):
    """Return how the region of a row lies to that of another: "equal", "within", "around" or "apart"."""
    check_row(question, stream, row)
    if not fits(question, stream, other):
        raise InvalidRow("not a row of the stream")
    rests = Rests(question, stream, (row, other))
    one = rests.region(row)
    two = rests.region(other)
    if one == two:
        return "equal"
    both = joined([one, two])
    if both == two:
        return "within"
    return "around" if both == one else "apart"


def exchangeable_rows(question, stream, rows):
    """Return the ascending tuple of the classes of exchangeable rows among the different ones of some rows."""
    check_rows(question, stream, rows)
    check_few(question, stream, rows)
    rests = Rests(question, stream, rows)
    classes = {}
    for row, region in rests.regions(rows).items():
        classes.setdefault(region, []).append(row)
    return tuple([tuple(same) for same in classes.values()])
