"""Which rows are kept of those that came, also of very many."""
from needrows.ask.questions import numbers_in
from needrows.base.choices import Choices, first_member, joined
from needrows.cover.regions import found_reason
from needrows.cover.rests import Rests, lean_cover, most_rows
from needrows.errors import TooMany


def kept_part(question, stream, rows):
    """Return a tight part of some different ascending rows, or raise an error if there is one that is too long."""
    limit = most_rows(question, stream)
    if len(rows) <= 2 * limit:
        part = _part_of_few(question, stream, rows)
    else:
        part = _part_of_many(question, stream, rows, limit)
    if len(part) > limit:
        raise TooMany(limit)
    return part


def _part_of_few(question, stream, rows):
    """Return a tight part of a few rows, by the rests about all of them."""
    regions = Rests(question, stream, rows).regions(rows)
    return tuple(lean_cover(joined([regions[row] for row in regions]), regions))


def _part_of_many(question, stream, rows, limit):
    """Return a tight part of many rows, or only the first rows of one, and more than the limit."""
    choices = Choices([(question.columns_of(stream), rows)])
    left = choices.full
    kept = []
    for place, row in enumerate(rows):
        others = left ^ (1 << place)
        if _has_reason(question, stream, row, choices, others):
            kept.append(row)
            if len(kept) > limit:
                return tuple(kept)
        else:
            left = others
    return tuple(kept)


def _has_reason(question, stream, row, choices, others):
    """Return whether a row has a reason beside a set of others among all rows.

    The rests about all rows would be too many. So a reason is looked for beside a few rows, at first beside none;
    if it rings with another row, this one is put to the few.
    """
    near = []
    while True:
        rest = found_reason(question, stream, row, near)
        if rest is None:
            return False
        told = others & choices.where(question.condition, numbers_in(question, rest))
        if told == 0:
            return True
        near.append(choices.rows_at(first_member(told))[0])
