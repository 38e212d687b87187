"""Rules: when a row of a rise may be forgotten."""
from needrows.ask.questions import check_rows, check_stream
from needrows.base.numbers import is_whole
from needrows.cover.rests import Rests
from needrows.errors import InvalidOperation
from needrows.few.needs import long_rows
from needrows.rises.kinds import check_kind, is_kind
from needrows.rises.standard import check_index, check_rising, standard_rows


def is_rule(question, stream, value):
    """Return whether the value is a rule of the stream."""
    check_stream(question, stream)
    if not has_rule_form(question, stream, value):
        return False
    _, kind, front, behind = value
    rows = standard_rows(question, stream, kind, front + 1 + behind)
    return is_covered_at(Rests(question, stream, rows), rows, front)


def is_covered_at(rests, rows, index):
    """Return whether the row at an index is covered by the other rows, by the rests about all of them."""
    left = rests.region(rows[index])
    # The nearest rows come first: mostly a few of them are enough.
    for step in range(1, len(rows)):
        for place in (index - step, index + step):
            if left == 0:
                return True
            if 0 <= place < len(rows):
                left = left & (left ^ rests.region(rows[place]))
    return left == 0


def has_rule_form(question, stream, value):
    """Return whether a value has the form of a rule of a stream that is there, right or not."""
    if not isinstance(value, tuple) or len(value) != 4 or value[0] != "rule":
        return False
    most = most_beside(question, stream)
    if not all([is_whole(number) and 0 <= number <= most for number in value[2:]]):
        return False
    return is_kind(question, stream, value[1])


def most_beside(question, stream):
    """Return how many rows a rule can ask for on one side."""
    return len(question.rest_columns(stream)) + 1


def rules(question, stream, kind):
    """Return the ascending tuple of all rules of the kind."""
    check_kind(question, stream, kind)
    most = most_beside(question, stream)
    found = []
    for front, least in enumerate(_least_behind(question, stream, kind)):
        found.extend([("rule", kind, front, behind) for behind in range(least, most + 1)])
    return tuple(found)


def _least_behind(question, stream, kind):
    """Return a list that tells for each number of rows in front the least number behind that makes a rule.

    Where none makes a rule, the number is greater than those that a rule can have.
    """
    rows = long_rows(question, stream, kind)
    rests = Rests(question, stream, rows)
    regions = [rests.region(row) for row in rows]
    most = most_beside(question, stream)
    left = regions[most]
    found = [_least_cover(left, regions[most + 1:])]
    for region in regions[:most][::-1]:
        left = left & (left ^ region)
        found.append(_least_cover(left, regions[most + 1:]))
    return found


def _least_cover(target, regions):
    """Return how many regions, from the first one on, are enough for a set to lie within them; else one more."""
    left = target
    for many, region in enumerate(regions):
        if left == 0:
            return many
        left = left & (left ^ region)
    return len(regions) if left == 0 else len(regions) + 1


def least_rules(question, stream, kind):
    """Return the ascending tuple of the least rules of the kind."""
    check_kind(question, stream, kind)
    found = []
    fewest = most_beside(question, stream) + 1
    for front, behind in enumerate(_least_behind(question, stream, kind)):
        if behind < fewest:
            found.append(("rule", kind, front, behind))
            fewest = behind
    return tuple(found)


def rule_of(question, stream, kind):
    """Return any rule of the kind, or None."""
    found = rules(question, stream, kind)
    return found[0] if found else None


def cover_of(question, stream, rule, rows, index):
    """Return the rows that cover the row at an index of a rise by a rule, in their order."""
    _check_rule(question, stream, rule)
    check_rows(question, stream, rows)
    check_index(index, len(rows))
    _, kind, front, behind = rule
    check_rising(question, stream, kind, rows)
    if index < front or index + behind >= len(rows):
        raise InvalidOperation("not enough rows on one side")
    return rows[index - front:index] + rows[index + 1:index + behind + 1]


def _check_rule(question, stream, rule):
    """Raise an error unless a value is a rule of the stream."""
    if not is_rule(question, stream, rule):
        raise InvalidOperation("not a rule of the stream")


def forgotten(question, stream, rule, rows):
    """Return the ascending tuple of the indices of the rows of a rise with enough rows on both sides."""
    _check_rule(question, stream, rule)
    check_rows(question, stream, rows)
    _, kind, front, behind = rule
    check_rising(question, stream, kind, rows)
    return tuple(range(front, len(rows) - behind))
