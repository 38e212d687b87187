"""Reasoning about conditions: one dict of integers for each order is enough to try."""
from needrows.base.choices import Choices, first_member, members
from needrows.base.conditions import ALWAYS, JOINTS, MOST_COLUMNS, NEVER, changed, checked, comparisons_of
from needrows.base.conditions import points_in, simplified
from needrows.base.numbers import candidates
from needrows.errors import TooMany


def solution(condition):
    """Return any dict from the columns of the condition to integers with which it holds, or None."""
    choices = _choices_for(condition)
    return _any_numbers(choices, choices.where(condition, {}))


def solutions(condition):
    """Yield one dict with which the condition holds for each order of its columns and points."""
    choices = _choices_for(condition)
    comparisons, _ = checked(condition)
    found = choices.where(condition, {}) & choices.plain(points_in(comparisons))
    for number in members(found):
        yield choices.numbers_at(number)


def is_always(condition):
    """Return whether the condition holds with all integers."""
    choices = _choices_for(condition)
    return choices.where(condition, {}) == choices.full


def is_never(condition):
    """Return whether the condition holds with no integers."""
    return _choices_for(condition).where(condition, {}) == 0


def follows(condition, other):
    """Return whether the second condition follows from the first one."""
    choices = _choices_for_both(condition, other)
    one = choices.where(condition, {})
    return one & choices.where(other, {}) == one


def are_equal(condition, other):
    """Return whether each of two conditions follows from the other one."""
    choices = _choices_for_both(condition, other)
    return choices.where(condition, {}) == choices.where(other, {})


def parting_numbers(condition, other):
    """Return any dict from the columns of both to integers with which exactly one of them holds, or None."""
    choices = _choices_for_both(condition, other)
    return _any_numbers(choices, choices.where(condition, {}) ^ choices.where(other, {}))


def _any_numbers(choices, found):
    """Return a dict from columns to integers in a set of choices, or None if it is empty."""
    return choices.numbers_at(first_member(found)) if found else None


def _choices_for(condition):
    """Return the choices of integers for the columns of a condition, with at least one for each order."""
    comparisons, columns = checked(condition)
    return _choices(columns, points_in(comparisons))


def _choices_for_both(condition, other):
    """Return the choices of integers for the columns of two conditions, if these are few enough."""
    comparisons, columns = checked(condition)
    others, more = checked(other)
    every = {**columns, **more}
    if len(every) > MOST_COLUMNS:
        raise TooMany(MOST_COLUMNS)
    return _choices(every, points_in(comparisons + others))


def _choices(columns, points):
    """Return the choices of integers for some columns that compare in all ways, also with the points."""
    many = len(columns)
    rows = [(number,) for number in candidates(points, many)]
    return Choices([((column,), rows) for column in sorted(columns)])


def idle_comparisons(condition):
    """Return the tuple of the idle comparisons, each once, in the order in which they first stand."""
    table = _table(condition)
    whole = _true_in(condition, table)
    every = _different_comparisons(condition)
    return tuple([one for one in every if _idle_for(condition, one, table, whole) is not None])


def trimmed(condition):
    """Return any equal condition without an idle comparison and without a new one."""
    table = _table(condition)
    whole = _true_in(condition, table)
    left = condition
    # One comparison at a time: those that are idle one by one need not be idle together.
    while left is not None:
        shortest = left
        left = _without_any(shortest, table, whole)
    return simplified(shortest)


def _without_any(condition, table, whole):
    """Return an equal condition without the first idle comparison, or None if none is idle."""
    for comparison in _different_comparisons(condition):
        constant = _idle_for(condition, comparison, table, whole)
        if constant is not None:
            return changed(condition, lambda one: constant if one == comparison else one)
    return None


def _idle_for(condition, comparison, table, whole):
    """Return "always" or "never" if this can stand for the comparison in an equal condition, or None if neither can."""
    for constant in (ALWAYS, NEVER):
        if _true_in(condition, {**table, comparison: table[constant]}) == whole:
            return constant
    return None


def _different_comparisons(condition):
    """Return the list of the comparisons of a condition, each once, in the order in which they first stand."""
    return list({comparison: True for comparison in comparisons_of(condition)})


def _table(condition):
    """Return a dict from each comparison, "always" and "never" to the set of the choices with which it holds."""
    choices = _choices_for(condition)
    table = {comparison: choices.where(comparison, {}) for comparison in _different_comparisons(condition)}
    return {**table, ALWAYS: choices.full, NEVER: 0}


def _true_in(condition, table):
    """Return the set of the choices with which a condition holds, by the table of its comparisons."""
    word = condition[0]
    if word == "not":
        return table[ALWAYS] ^ _true_in(condition[1], table)
    if word not in JOINTS:
        return table[condition]
    found = table[ALWAYS] if word == "and" else table[NEVER]
    for inner in condition[1:]:
        choices = _true_in(inner, table)
        found = found & choices if word == "and" else found | choices
    return found
