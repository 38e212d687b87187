"""Tight rows: each of them has a reason beside the others."""
from needrows.ask.questions import check_rows, fits
from needrows.base.choices import joined
from needrows.cover.regions import is_reason_beside
from needrows.cover.rests import Rests, check_few, lean_cover, lone_rests
from needrows.errors import InvalidOperation, TooMany

MOST_SEARCHED = 8


def is_tight(question, stream, rows):
    """Return whether the tuple of rows is tight; it is not if it is not ascending."""
    check_few_rows(question, stream, rows)
    regions = Rests(question, stream, rows).regions(rows)
    return _is_tight(rows, regions)


def check_few_rows(question, stream, rows):
    """Raise an error unless the third value is a tuple of rows of the stream, and these are not too many."""
    check_rows(question, stream, rows)
    check_few(question, stream, rows)


def _is_tight(rows, regions):
    """Return whether a tuple of rows is tight, by the dict of their regions."""
    return rows == tuple(regions) and not _loose_rows(regions)


def _loose_rows(regions):
    """Return the list of the rows without a reason beside the others, by the dict of their regions."""
    alone = lone_rests(regions)
    return [row for row in regions if regions[row] & alone == 0]


def loose_row(question, stream, rows):
    """Return any row that is covered by the other different ones of the rows, or None if there is none."""
    check_few_rows(question, stream, rows)
    regions = Rests(question, stream, rows).regions(rows)
    loose = _loose_rows(regions)
    return loose[0] if loose else None


def tight_part(question, stream, rows):
    """Return any tight part of the rows."""
    check_few_rows(question, stream, rows)
    regions = Rests(question, stream, rows).regions(rows)
    return tuple(lean_cover(_union(regions), regions))


def _union(regions):
    """Return the set of the rests that ring with one of some rows, by the dict of their regions."""
    return joined([regions[row] for row in regions])


def tight_parts(question, stream, rows):
    """Yield all tight parts of the rows, ascending."""
    yield from _tight_parts(question, stream, rows)


def _tight_parts(question, stream, rows):
    """Return the ascending list of all tight parts of the rows."""
    check_few_rows(question, stream, rows)
    if len(set(rows)) > MOST_SEARCHED:
        raise TooMany(MOST_SEARCHED)
    regions = Rests(question, stream, rows).regions(rows)
    # The union of the rows of each choice of some rows, beside what it has; a row that comes is put to each of them.
    unions = [((), 0)]
    for row in regions:
        unions = unions + [((*part, row), found | regions[row]) for part, found in unions]
    whole = _union(regions)
    parts = [part for part, found in unions if found == whole]
    return sorted([part for part in parts if not _loose_rows({row: regions[row] for row in part})])


def least_part(question, stream, rows):
    """Return any tight part with the fewest rows."""
    return min(_tight_parts(question, stream, rows), key=len)


def part_paper(question, stream, rows):
    """Return any part paper of the rows."""
    check_few_rows(question, stream, rows)
    rests = Rests(question, stream, rows)
    regions = rests.regions(rows)
    part = lean_cover(_union(regions), regions)
    return ("part", _reasons(rests, {row: regions[row] for row in part}))


def _reasons(rests, regions):
    """Return a dict from tight rows to any reason of each beside the others, by the dict of their regions."""
    alone = lone_rests(regions)
    return {row: rests.first_of(regions[row] & alone) for row in regions}


def is_part_paper(question, stream, rows, value):
    """Return whether the value is a part paper of the rows."""
    check_few_rows(question, stream, rows)
    if not isinstance(value, tuple) or len(value) != 2 or value[0] != "part" or not isinstance(value[1], dict):
        return False
    reasons = value[1]
    if not all([fits(question, stream, row) and row in rows for row in reasons]):
        return False
    regions = Rests(question, stream, rows).regions(rows)
    if _union({row: regions[row] for row in reasons}) != _union(regions):
        return False
    return all([_is_reason_among(question, stream, row, reasons) for row in reasons])


def _is_reason_among(question, stream, row, reasons):
    """Return whether the value of a row in a dict is a reason of it beside the other keys."""
    others = [one for one in reasons if one != row]
    return is_reason_beside(question, stream, row, reasons[row], others)


def reasons_of(question, stream, rows):
    """Return a dict from the rows of a tight tuple to any reason of each beside the others."""
    check_few_rows(question, stream, rows)
    rests = Rests(question, stream, rows)
    regions = rests.regions(rows)
    if not _is_tight(rows, regions):
        raise InvalidOperation("the rows are not tight")
    return _reasons(rests, regions)
