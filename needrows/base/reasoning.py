"""Reasoning about conditions: one dict of integers for each order is enough to try."""
from needrows.base.conditions import ALWAYS, MOST_COLUMNS, NEVER, changed, columns_of, comparisons_of
from needrows.base.conditions import holds_unchecked, negated, points_of, simplified
from needrows.base.numbers import Line
from needrows.errors import TooMany


def solution(condition):
    """Return any dict from the columns of the condition to integers with which it holds, or None."""
    for numbers in solutions(condition):
        return numbers
    return None


def solutions(condition):
    """Yield one dict with which the condition holds for each order of its columns and points."""
    columns = columns_of(condition)
    points = points_of(condition)
    for numbers in _orders(columns, points):
        if holds_unchecked(condition, numbers):
            yield numbers


def is_always(condition):
    """Return whether the condition holds with all integers."""
    return is_never(negated(condition))


def is_never(condition):
    """Return whether the condition holds with no integers."""
    return solution(condition) is None


def follows(condition, other):
    """Return whether the second condition follows from the first one."""
    columns = _columns_of_both(condition, other)
    points = points_of(condition) + points_of(other)
    for numbers in _orders(columns, points):
        if holds_unchecked(condition, numbers) and not holds_unchecked(other, numbers):
            return False
    return True


def are_equal(condition, other):
    """Return whether each of two conditions follows from the other one."""
    return parting_numbers(condition, other) is None


def parting_numbers(condition, other):
    """Return any dict from the columns of both to integers with which exactly one of them holds, or None."""
    columns = _columns_of_both(condition, other)
    points = points_of(condition) + points_of(other)
    for numbers in _orders(columns, points):
        if holds_unchecked(condition, numbers) != holds_unchecked(other, numbers):
            return numbers
    return None


def _columns_of_both(condition, other):
    """Return the ascending tuple of the columns of two conditions, if these are few enough."""
    columns = tuple(sorted(set(columns_of(condition) + columns_of(other))))
    if len(columns) > MOST_COLUMNS:
        raise TooMany(MOST_COLUMNS)
    return columns


def _orders(columns, points):
    """Yield one dict from the columns to integers for each way in which these compare, also with the points."""
    many = len(columns)
    line = Line.of(points)
    for numbers in line.placements(many):
        yield dict(zip(columns, numbers))


def idle_comparisons(condition):
    """Return the tuple of the idle comparisons, each once, in the order in which they first stand."""
    table = _table(condition)
    return tuple([one for one in _different_comparisons(condition) if _without(condition, one, table) is not None])


def trimmed(condition):
    """Return any equal condition without an idle comparison and without a new one."""
    table = _table(condition)
    left = condition
    # One comparison at a time: those that are idle one by one need not be idle together.
    while left is not None:
        shortest = left
        left = _without_any(shortest, table)
    return simplified(shortest)


def _without_any(condition, table):
    """Return an equal condition without the first idle comparison, or None if none is idle."""
    for comparison in _different_comparisons(condition):
        shorter = _without(condition, comparison, table)
        if shorter is not None:
            return shorter
    return None


def _without(condition, comparison, table):
    """Return an equal condition with "always" or "never" for the comparison, or None if it is not idle."""
    true_in = _true_in(condition, table)
    for constant in (ALWAYS, NEVER):
        shorter = _replaced(condition, comparison, constant)
        if _true_in(shorter, table) == true_in:
            return shorter
    return None


def _replaced(condition, comparison, constant):
    """Return the condition with the constant in all places of the comparison."""
    return changed(condition, lambda one: constant if one == comparison else one)


def _different_comparisons(condition):
    """Return the list of the comparisons of a condition, each once, in the order in which they first stand."""
    return list({comparison: True for comparison in comparisons_of(condition)})


def _table(condition):
    """Return a dict from each comparison, "always" and "never" to the set of the orders in which it is true.

    A set of orders is an integer here, with one binary digit for each order:
    so a long condition is judged for all orders together by a few operations.
    """
    columns = columns_of(condition)
    points = points_of(condition)
    orders = list(_orders(columns, points))
    table = {NEVER: 0, ALWAYS: (1 << len(orders)) - 1}
    for comparison in _different_comparisons(condition):
        digits = 0
        for numbers in orders:
            digits = 2 * digits + int(holds_unchecked(comparison, numbers))
        table[comparison] = digits
    return table


def _true_in(condition, table):
    """Return the set of the orders in which a condition is true, by the table of its comparisons."""
    word = condition[0]
    if word == "not":
        return table[ALWAYS] - _true_in(condition[1], table)
    if word not in ("and", "or"):
        return table[condition]
    found = table[ALWAYS] if word == "and" else table[NEVER]
    for inner in condition[1:]:
        orders = _true_in(inner, table)
        found = found & orders if word == "and" else found | orders
    return found
