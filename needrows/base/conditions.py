"""Conditions: comparisons of columns and written integers, joined by "not", "and" and "or"."""
from needrows.base.numbers import is_name, is_whole
from needrows.errors import InvalidCondition, InvalidName, InvalidOperation, UnknownName

MAX_PARTS = 40
MAX_DEEP = 8
MAX_WRITTEN = 3
MOST_COLUMNS = 4
MOST_JOINED = 6

ALWAYS = ("always",)
NEVER = ("never",)
SIGNS = ("<", "<=", "=", "!=")
_OPPOSITES = {
    "always": "never", "never": "always", "and": "or", "or": "and",
    "=": "!=", "!=": "=", "<": "<=", "<=": "<",
}


def is_condition(value):
    """Whether the value is a condition."""
    # A list of what waits, and no recursion: a value with very many parts is left at the first one too many.
    waiting = [(value, 1)]
    columns = {}
    parts = 0
    while waiting:
        part, deep = waiting.pop()
        parts += 1
        if parts > MAX_PARTS or deep > MAX_DEEP or not _has_form(part):
            return False
        for inner in inner_conditions(part):
            waiting.append((inner, deep + 1))
        for column in _columns_in(part):
            columns[column] = True
    return len(columns) <= MOST_COLUMNS


def _has_form(part):
    """Whether a value has the form of a condition, whatever stands in the places of inner conditions."""
    if not isinstance(part, tuple) or not part or not isinstance(part[0], str):
        return False
    word = part[0]
    if word in SIGNS:
        return len(part) == 3 and _are_terms(part[1], part[2])
    if word == "not":
        return len(part) == 2
    if word in ("and", "or"):
        return 2 <= len(part) - 1 <= MOST_JOINED
    return part in (ALWAYS, NEVER)


def _are_terms(one, other):
    """Whether two values are terms of a comparison: columns or written integers, but not two integers."""
    if is_name(one):
        return is_name(other) or _is_written(other)
    return _is_written(one) and is_name(other)


def _is_written(value):
    """Whether the value is a written integer."""
    return is_whole(value) and 0 <= value <= MAX_WRITTEN


def check_condition(value):
    """Raise an error unless the value is a condition."""
    if not is_condition(value):
        raise InvalidCondition("not a condition")


def inner_conditions(condition):
    """Return the tuple of the conditions that stand directly in a condition."""
    return condition[1:] if condition[0] in ("not", "and", "or") else ()


def _columns_in(part):
    """Return the columns of a comparison; other parts have none of their own."""
    if part[0] not in SIGNS:
        return []
    return [term for term in part[1:] if isinstance(term, str)]


def parts_of(condition):
    """Yield the parts of a condition, each one ahead of those in it, these from left to right."""
    check_condition(condition)
    yield from _parts(condition)


def _parts(condition):
    """Return the list of the parts of a checked condition, in the same order."""
    found = [condition]
    for inner in inner_conditions(condition):
        found.extend(_parts(inner))
    return found


def columns_of(condition):
    """Return the ascending tuple of the columns of a condition."""
    check_condition(condition)
    return column_names(condition)


def column_names(condition):
    """Return the ascending tuple of the columns of a checked condition."""
    return tuple(sorted({column for part in _parts(condition) for column in _columns_in(part)}))


def points_of(condition):
    """Return the ascending tuple of the integers from the least to the greatest one that is written."""
    comparisons = comparisons_of(condition)
    written = [term for comparison in comparisons for term in comparison[1:] if is_whole(term)]
    if not written:
        return ()
    return tuple(range(min(written), max(written) + 1))


def comparisons_of(condition):
    """Return the list of the comparisons of a condition, as often and in the order as they stand in it."""
    check_condition(condition)
    return [part for part in _parts(condition) if part[0] in SIGNS]


def depth(condition):
    """Return how deep a condition is."""
    check_condition(condition)
    return _depth(condition)


def _depth(condition):
    """Return how deep a checked condition is."""
    return 1 + max([_depth(inner) for inner in inner_conditions(condition)], default=0)


def holds(condition, **numbers):
    """Return whether a condition holds with these integers for its columns."""
    return holds_for(condition, numbers)


def holds_for(condition, numbers):
    """Return whether a condition holds with the integers of a dict for its columns."""
    columns = columns_of(condition)
    if not _are_numbers(numbers) or not all([column in numbers for column in columns]):
        raise InvalidOperation("not a dict from names to integers that has all columns")
    return holds_unchecked(condition, numbers)


def _are_numbers(value):
    """Whether the value is a dict from names to integers."""
    return isinstance(value, dict) and all([is_name(name) and is_whole(value[name]) for name in value])


def holds_unchecked(condition, numbers):
    """Return whether a condition holds with the integers of a dict; neither is checked."""
    word = condition[0]
    if word == "and":
        return all([holds_unchecked(inner, numbers) for inner in condition[1:]])
    if word == "or":
        return any([holds_unchecked(inner, numbers) for inner in condition[1:]])
    if word == "not":
        return not holds_unchecked(condition[1], numbers)
    if word in SIGNS:
        one, other = [numbers.get(term, term) for term in condition[1:]]
        return _stands(word, one, other)
    return condition == ALWAYS


def _stands(sign, one, other):
    """Return whether a comparison of two integers by a sign is true."""
    if sign == "<":
        return one < other
    if sign == "<=":
        return one <= other
    return (one == other) == (sign == "=")


def without_not(condition):
    """Return an equal condition without "not"."""
    check_condition(condition)
    return _without_not(condition, False)


def negated(condition):
    """Return a condition without "not" that holds just if the given one does not."""
    check_condition(condition)
    return _without_not(condition, True)


def _without_not(condition, turn):
    """Return a condition without "not", turned if there is an odd number of "not" around it."""
    word = condition[0]
    if word == "not":
        return _without_not(condition[1], not turn)
    if word in ("and", "or"):
        inner = [_without_not(one, turn) for one in condition[1:]]
        return (_OPPOSITES[word] if turn else word, *inner)
    return _opposite(condition) if turn else condition


def _opposite(part):
    """Return the opposite of "always", "never" or a comparison."""
    terms = part[1:]
    if part[0] in ("<", "<="):
        terms = terms[::-1]
    return (_OPPOSITES[part[0]], *terms)


def changed(condition, change):
    """Return the condition with `change(comparison)` in the place of each comparison."""
    if condition[0] in SIGNS:
        return change(condition)
    inner = [changed(one, change) for one in inner_conditions(condition)]
    return (condition[0], *inner)


def mirrored(condition):
    """Return the condition that holds for integers n just if the given one holds for 3 - n."""
    check_condition(condition)
    return changed(condition, _mirrored)


def _mirrored(comparison):
    """Return a comparison with 3 - c for each written integer c, and with the order turned round."""
    terms = [term if isinstance(term, str) else MAX_WRITTEN - term for term in comparison[1:]]
    if comparison[0] in ("<", "<="):
        terms = terms[::-1]
    return (comparison[0], *terms)


def simplified(condition):
    """Return an equal condition in which "always" and "never" stand alone, if they stand at all."""
    check_condition(condition)
    return _simplified(condition)


def _simplified(condition):
    """Return a checked condition, simplified from the inside to the outside."""
    word = condition[0]
    if word in SIGNS:
        return _simplified_comparison(condition)
    inner = [_simplified(one) for one in inner_conditions(condition)]
    if word == "not":
        return _opposite(inner[0]) if inner[0] in (ALWAYS, NEVER) else (word, *inner)
    if word == "and":
        return _simplified_joint(word, inner, NEVER, ALWAYS)
    if word == "or":
        return _simplified_joint(word, inner, ALWAYS, NEVER)
    return condition


def _simplified_comparison(comparison):
    """Return "always" or "never" for a column compared with itself, any other comparison as it is."""
    sign, one, other = comparison
    if one != other:
        return comparison
    return ALWAYS if sign in ("<=", "=") else NEVER


def _simplified_joint(word, conditions, ruling, idle):
    """Return an "and" or "or" in which one condition decides alone and another one says nothing."""
    if ruling in conditions:
        return ruling
    left = [one for one in conditions if one != idle]
    if not left:
        return idle
    return left[0] if len(left) == 1 else (word, *left)


def renamed(condition, **names):
    """Return the condition with new names for columns, all at once."""
    return renamed_by(condition, names)


def renamed_by(condition, names):
    """Return the condition in which the columns that are keys of a dict have new names, all at once."""
    columns = columns_of(condition)
    check_renaming(names, columns)
    return renamed_unchecked(condition, names)


def check_renaming(names, known):
    """Raise an error unless a value is a dict from some known names to new names."""
    if not isinstance(names, dict) or not all([isinstance(old, str) for old in names]):
        raise InvalidOperation("not a dict whose keys are strings")
    unknown = [old for old in names if old not in known]
    if unknown:
        raise UnknownName(min(unknown))
    if not all([is_name(new) for new in names.values()]):
        raise InvalidName("a new name is none")


def renamed_unchecked(condition, names):
    """Return the condition with the new names of a dict; neither is checked."""
    return changed(condition, lambda comparison: _renamed(comparison, names))


def _renamed(comparison, names):
    """Return a comparison with the new names of a dict."""
    terms = [names.get(term, term) for term in comparison[1:]]
    return (comparison[0], *terms)


def both(*conditions):
    """Return the "and" of these conditions in order; one condition alone stays as it is."""
    return _joined("and", conditions)


def either(*conditions):
    """Return the "or" of these conditions in order; one condition alone stays as it is."""
    return _joined("or", conditions)


def _joined(word, conditions):
    """Return the condition made of a word and a tuple of conditions, or the only one of these."""
    joint = conditions[0] if len(conditions) == 1 else (word, *conditions)
    check_condition(joint)
    return joint
