"""Choices of rows for some columns, and sets of choices.

A set of choices is an integer here, with one binary digit for each choice: so a condition is judged for all
choices together, by a few operations.
"""
from needrows.base.numbers import count_below


def members(found):
    """Yield the numbers of the choices in a set, ascending."""
    digits = f"{found:b}"[::-1]
    number = digits.find("1")
    while number >= 0:
        yield number
        number = digits.find("1", number + 1)


def first_member(found):
    """Return the least number of a choice in a set that is not empty."""
    return (found & -found).bit_length() - 1


def joined(sets):
    """Return the set of the choices that are in one of some sets."""
    found = 0
    for one in sets:
        found = found | one
    return found


def _repeated(period, many):
    """Return the integer with so many binary digits 1, one in each period."""
    found = 1
    have = 1
    while have < many:
        more = min(have, many - have)
        found = found | (found << (more * period))
        have = have + more
    return found


class Choices:
    """All ways to choose one row for each of some tuples of columns.

    They are numbered in the order of the tuples of their rows, from 0 on.
    """

    def __init__(self, parts):
        """Take a list of pairs of a tuple of columns and an ascending list of rows for them, one row or more."""
        self._parts = []
        many = 1
        for columns, rows in reversed(parts):
            self._parts.append((columns, rows, many))
            many = many * len(rows)
        self._parts.reverse()
        self._many = many
        self.full = (1 << many) - 1
        self._scales = {}
        self._orders = {}

    def rows_at(self, number):
        """Return the list of the rows that are chosen in the choice with this number."""
        return [rows[number // stride % len(rows)] for _, rows, stride in self._parts]

    def numbers_at(self, number):
        """Return the dict from the columns to the integers that are chosen in the choice with this number."""
        found = {}
        for columns, rows, stride in self._parts:
            for column, chosen in zip(columns, rows[number // stride % len(rows)]):
                found[column] = chosen
        return found

    def where(self, condition, numbers):
        """Return the set of the choices with which a condition holds, given the integers of its other columns."""
        word = condition[0]
        if word == "and":
            found = self.full
            for inner in condition[1:]:
                found = found & self.where(inner, numbers)
            return found
        if word == "or":
            found = 0
            for inner in condition[1:]:
                found = found | self.where(inner, numbers)
            return found
        if word == "not":
            return self.full ^ self.where(condition[1], numbers)
        if len(condition) == 1:
            return self.full if word == "always" else 0
        one = numbers.get(condition[1], condition[1])
        other = numbers.get(condition[2], condition[2])
        if word == "<":
            return self.less(one, other)
        if word == "<=":
            return self.full ^ self.less(other, one)
        unlike = self.less(one, other) | self.less(other, one)
        return unlike if word == "!=" else self.full ^ unlike

    def less(self, one, other):
        """Return the set of the choices in which one column or integer is less than another one."""
        if isinstance(one, str):
            if isinstance(other, str):
                return self._less_of_columns(one, other)
            scale, sets = self._scale(one)
            return sets[count_below(scale, other)]
        if isinstance(other, str):
            scale, sets = self._scale(other)
            return self.full ^ sets[count_below(scale, one + 1)]
        return self.full if one < other else 0

    def _less_of_columns(self, one, other):
        """Return the set of the choices in which one column is less than another one."""
        if (one, other) not in self._orders:
            scale, sets = self._scale(one)
            found = 0
            for number, least in zip(scale, sets[1:]):
                found = found | (least & self.less(number, other))
            self._orders[one, other] = found
        return self._orders[one, other]

    def _scale(self, column):
        """Return the ascending integers of a column, and for each k the set in which it has one of the k least."""
        if column not in self._scales:
            columns, rows, stride = [part for part in self._parts if column in part[0]][0]
            self._scales[column] = self._made_scale(columns.index(column), rows, stride)
        return self._scales[column]

    def _made_scale(self, place, rows, stride):
        """Return what `_scale` does, for the column at a place of some rows that take turns at each stride."""
        period = stride * len(rows)
        first = _repeated(period, self._many // period)
        if len(rows[0]) == 1:
            return [row[0] for row in rows], [(first << (stride * many)) - first for many in range(len(rows) + 1)]
        table = {}
        here = (first << stride) - first
        for row in rows:
            table[row[place]] = table.get(row[place], 0) | here
            here = here << stride
        scale = sorted(table)
        sets = [0]
        for number in scale:
            sets.append(sets[-1] | table[number])
        return scale, sets

    def plain(self, given):
        """Return the set of the choices that are canonical tuples on the line of some ascending integers.

        Each part has one column here, and the candidates of the given integers as its rows.
        """
        used = {}
        for part in self._parts:
            scale, sets = self._scale(part[0][0])
            for place, number in enumerate(scale):
                used[number] = used.get(number, 0) | (sets[place] ^ sets[place + 1])
        known = {number: True for number in given}
        found = self.full
        for number in used:
            nearer = number + 1 if given and number < given[0] else number - 1
            if number not in known and nearer not in known and nearer in used:
                found = found & ((self.full ^ used[number]) | used[nearer])
        return found
