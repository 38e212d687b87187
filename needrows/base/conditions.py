"""Conditions: comparisons of columns and written integers, joined by "not", "and" and "or"."""
from needrows.base.numbers import are_names, is_name, is_whole
from needrows.errors import InvalidCondition, InvalidName, InvalidOperation, UnknownName

MAX_PARTS = 40
MAX_DEEP = 8
MAX_WRITTEN = 3
MOST_COLUMNS = 4
MOST_JOINED = 6

ALWAYS = ("always",)
NEVER = ("never",)
SIGNS = ("<", "<=", "=", "!=")
JOINTS = ("and", "or")
_OPPOSITES = {
    "always": "never", "never": "always", "and": "or", "or": "and",
    "=": "!=", "!=": "=", "<": "<=", "<=": "<",
}


def is_condition(value):
    """Whether the value is a condition."""
    comparisons = _comparisons_in(value)
    return comparisons is not None and _columns_in(comparisons) is not None


def check_condition(value):
    """Raise an error unless the value is a condition."""
    checked(value)


def checked(condition):
    """Return the list of the comparisons of a condition, in any order, and the dict with its columns as keys."""
    comparisons = _comparisons_in(condition)
    columns = None if comparisons is None else _columns_in(comparisons)
    if columns is None:
        raise InvalidCondition("not a condition")
    return comparisons, columns


def _comparisons_in(value):
    """Return the list of what stands for comparisons in a value with the form of a condition, in any order, or None."""
    # Level by level, and no recursion: a value with very many parts is left at the first level with too many.
    found = []
    parts = 0
    level = [value]
    for _ in range(MAX_DEEP):
        parts = parts + len(level)
        if parts > MAX_PARTS:
            return None
        inner = []
        for part in level:
            if not isinstance(part, tuple):
                return None
            many = len(part)
            if many == 3 and part[0] in SIGNS:
                found.append(part)
            elif 3 <= many <= MOST_JOINED + 1 and part[0] in JOINTS:
                inner.extend(part[1:])
            elif many == 2 and part[0] == "not":
                inner.append(part[1])
            elif part != ALWAYS and part != NEVER:
                return None
        if not inner:
            return found
        level = inner
    return None


def _columns_in(comparisons):
    """Return a dict with the columns of some comparisons as its keys, or None if one is none, or too many are there."""
    columns = {}
    for _, one, other in comparisons:
        if isinstance(one, str):
            columns[one] = True
            if isinstance(other, str):
                columns[other] = True
            elif type(other) != int or not 0 <= other <= MAX_WRITTEN:
                return None
        elif isinstance(other, str) and type(one) == int and 0 <= one <= MAX_WRITTEN:
            columns[other] = True
        else:
            return None
    return columns if len(columns) <= MOST_COLUMNS and are_names(columns) else None


def inner_conditions(condition):
    """Return the tuple of the conditions that stand directly in a condition."""
    return condition[1:] if condition[0] in ("not", "and", "or") else ()


def parts_of(condition):
    """Yield the parts of a condition, each one ahead of those in it, these from left to right."""
    check_condition(condition)
    yield from _parts(condition)


def _parts(condition):
    """Return the list of the parts of a checked condition, in the same order."""
    found = [condition]
    if condition[0] in JOINTS or condition[0] == "not":
        for inner in condition[1:]:
            found.extend(_parts(inner))
    return found


def columns_of(condition):
    """Return the ascending tuple of the columns of a condition."""
    _, columns = checked(condition)
    return tuple(sorted(columns))


def points_of(condition):
    """Return the ascending tuple of the integers from the least to the greatest one that is written."""
    comparisons, _ = checked(condition)
    return points_in(comparisons)


def points_in(comparisons):
    """Return the ascending tuple of the integers from the least to the greatest one in some comparisons."""
    written = [term for comparison in comparisons for term in comparison[1:] if not isinstance(term, str)]
    return tuple(range(min(written), max(written) + 1)) if written else ()


def comparisons_of(condition):
    """Return the list of the comparisons of a checked condition, as often and in the order as they stand in it."""
    return [part for part in _parts(condition) if part[0] in SIGNS]


def depth(condition):
    """Return how deep a condition is."""
    check_condition(condition)
    return _depth(condition)


def _depth(condition):
    """Return how deep a checked condition is."""
    return 1 + max([_depth(inner) for inner in inner_conditions(condition)], default=0)


def holds(condition, **numbers):
    """Return whether a condition holds with these integers for its columns."""
    return holds_for(condition, numbers)


def holds_for(condition, numbers):
    """Return whether a condition holds with the integers of a dict for its columns."""
    _, columns = checked(condition)
    if not _are_numbers(numbers, columns):
        raise InvalidOperation("not a dict from names to integers that has all columns")
    return holds_unchecked(condition, numbers)


def _are_numbers(value, columns):
    """Whether the value is a dict from names to integers that has all of some columns."""
    if not isinstance(value, dict):
        return False
    for name in value:
        if not is_whole(value[name]) or name not in columns and not is_name(name):
            return False
    for column in columns:
        if column not in value:
            return False
    return True


def holds_unchecked(condition, numbers):
    """Return whether a condition holds with the integers of a dict; neither is checked."""
    word = condition[0]
    if word == "and":
        for inner in condition[1:]:
            if not holds_unchecked(inner, numbers):
                return False
        return True
    if word == "or":
        for inner in condition[1:]:
            if holds_unchecked(inner, numbers):
                return True
        return False
    if word == "not":
        return not holds_unchecked(condition[1], numbers)
    if len(condition) == 1:
        return word == "always"
    return stands(word, numbers.get(condition[1], condition[1]), numbers.get(condition[2], condition[2]))


def stands(sign, one, other):
    """Return whether a comparison of two integers by a sign is true."""
    if sign == "<":
        return one < other
    if sign == "<=":
        return one <= other
    return one == other if sign == "=" else one != other


def without_not(condition):
    """Return an equal condition without "not"."""
    check_condition(condition)
    return _without_not(condition, False)


def negated(condition):
    """Return a condition without "not" that holds just if the given one does not."""
    check_condition(condition)
    return _without_not(condition, True)


def _without_not(condition, turn):
    """Return a condition without "not", turned if there is an odd number of "not" around it."""
    word = condition[0]
    if word == "not":
        return _without_not(condition[1], not turn)
    if word in ("and", "or"):
        inner = [_without_not(one, turn) for one in condition[1:]]
        return (_OPPOSITES[word] if turn else word, *inner)
    return _opposite(condition) if turn else condition


def _opposite(part):
    """Return the opposite of "always", "never" or a comparison."""
    terms = part[1:]
    if part[0] in ("<", "<="):
        terms = terms[::-1]
    return (_OPPOSITES[part[0]], *terms)


def changed(condition, change):
    """Return the condition with `change(comparison)` in the place of each comparison."""
    if condition[0] in SIGNS:
        return change(condition)
    inner = [changed(one, change) for one in condition[1:]]
    return (condition[0], *inner)


def mirrored(condition):
    """Return the condition that holds for integers n just if the given one holds for 3 - n."""
    check_condition(condition)
    return changed(condition, _mirrored)


def _mirrored(comparison):
    """Return a comparison with 3 - c for each written integer c, and with the order turned round."""
    terms = [term if isinstance(term, str) else MAX_WRITTEN - term for term in comparison[1:]]
    if comparison[0] in ("<", "<="):
        terms = terms[::-1]
    return (comparison[0], *terms)


def simplified(condition):
    """Return an equal condition in which "always" and "never" stand alone, if they stand at all."""
    check_condition(condition)
    return _simplified(condition)


def _simplified(condition):
    """Return a checked condition, simplified from the inside to the outside."""
    word = condition[0]
    if word in SIGNS:
        return _simplified_comparison(condition)
    inner = [_simplified(one) for one in inner_conditions(condition)]
    if word == "not":
        return _opposite(inner[0]) if inner[0] in (ALWAYS, NEVER) else (word, *inner)
    if word == "and":
        return _simplified_joint(word, inner, NEVER, ALWAYS)
    if word == "or":
        return _simplified_joint(word, inner, ALWAYS, NEVER)
    return condition


def _simplified_comparison(comparison):
    """Return "always" or "never" for a column compared with itself, any other comparison as it is."""
    sign, one, other = comparison
    if one != other:
        return comparison
    return ALWAYS if sign in ("<=", "=") else NEVER


def _simplified_joint(word, conditions, ruling, idle):
    """Return an "and" or "or" in which one condition decides alone and another one says nothing."""
    if ruling in conditions:
        return ruling
    left = [one for one in conditions if one != idle]
    if not left:
        return idle
    return left[0] if len(left) == 1 else (word, *left)


def renamed(condition, **names):
    """Return the condition with new names for columns, all at once."""
    return renamed_by(condition, names)


def renamed_by(condition, names):
    """Return the condition in which the columns that are keys of a dict have new names, all at once."""
    columns = columns_of(condition)
    check_renaming(names, columns)
    return renamed_unchecked(condition, names)


def check_renaming(names, known):
    """Raise an error unless a value is a dict from some known names to new names."""
    if not isinstance(names, dict) or not all([isinstance(old, str) for old in names]):
        raise InvalidOperation("not a dict whose keys are strings")
    unknown = [old for old in names if old not in known]
    if unknown:
        raise UnknownName(min(unknown))
    if not all([is_name(new) for new in names.values()]):
        raise InvalidName("a new name is none")


def renamed_unchecked(condition, names):
    """Return the condition with the new names of a dict; neither is checked."""
    return changed(condition, lambda comparison: _renamed(comparison, names))


def _renamed(comparison, names):
    """Return a comparison with the new names of a dict."""
    terms = [names.get(term, term) for term in comparison[1:]]
    return (comparison[0], *terms)


def both(*conditions):
    """Return the "and" of these conditions in order; one condition alone stays as it is."""
    return _joined("and", conditions)


def either(*conditions):
    """Return the "or" of these conditions in order; one condition alone stays as it is."""
    return _joined("or", conditions)


def _joined(word, conditions):
    """Return the condition made of a word and a tuple of conditions, or the only one of these."""
    joint = conditions[0] if len(conditions) == 1 else (word, *conditions)
    check_condition(joint)
    return joint
