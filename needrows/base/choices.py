"""Choices of rows for some columns, and sets of choices.

A set of choices is an integer here, with one binary digit for each choice: so a condition is judged for all
choices together, by a few operations.
"""
from needrows.base.conditions import SIGNS
from needrows.base.numbers import count_below


def candidates(given, many):
    """Return the ascending list of some ascending integers and of so many nearest ones in each of their gaps."""
    if not given:
        return list(range(many))
    found = list(range(given[0] - many, given[0]))
    for low, high in zip(given, given[1:]):
        found.append(low)
        found.extend(list(range(low + 1, min(low + many + 1, high))))
    last = given[-1]
    found.extend(list(range(last, last + many + 1)))
    return found


def members(found):
    """Yield the numbers of the choices in a set, ascending."""
    digits = f"{found:b}"[::-1]
    number = digits.find("1")
    while number >= 0:
        yield number
        number = digits.find("1", number + 1)


def first_member(found):
    """Return the least number of a choice in a set that is not empty."""
    return (found & -found).bit_length() - 1


def joined(sets):
    """Return the set of the choices that are in one of some sets."""
    found = 0
    for one in sets:
        found = found | one
    return found


def _repeated(period, many):
    """Return the integer with so many binary digits 1, one in each period."""
    found = 1
    have = 1
    while have < many:
        more = min(have, many - have)
        found = found | (found << (more * period))
        have = have + more
    return found


class Choices:
    """All ways to choose one row for each of some tuples of columns.

    They are numbered in the order of the tuples of their rows, from 0 on.
    """

    def __init__(self, parts):
        """Take a list of pairs of a tuple of columns and an ascending list of rows for them, one or more."""
        self._parts = parts
        self._many = 1
        for _, rows in parts:
            self._many = self._many * len(rows)
        self.full = (1 << self._many) - 1
        self._scales = {}
        self._orders = {}

    def rows_at(self, number):
        """Return the list of the rows that are chosen in the choice with this number."""
        found = []
        left = number
        for _, rows in reversed(self._parts):
            left, place = divmod(left, len(rows))
            found.append(rows[place])
        return found[::-1]

    def where(self, condition, numbers):
        """Return the set of the choices with which a condition holds, given the integers of its other columns."""
        word = condition[0]
        if word in SIGNS:
            return self._where_compared(condition, numbers)
        if word == "and":
            found = self.full
            for inner in condition[1:]:
                found = found & self.where(inner, numbers)
            return found
        if word == "or":
            return joined([self.where(inner, numbers) for inner in condition[1:]])
        if word == "not":
            return self.full ^ self.where(condition[1], numbers)
        return self.full if word == "always" else 0

    def _where_compared(self, comparison, numbers):
        """Return the set of the choices with which a comparison holds."""
        sign, one, other = comparison
        less, same = self._order(numbers.get(one, one), numbers.get(other, other))
        if sign == "<":
            return less
        if sign == "<=":
            return less | same
        return same if sign == "=" else self.full ^ same

    def _order(self, one, other):
        """Return the sets of the choices in which one column or integer is less than another, and equal to it."""
        if isinstance(one, str):
            return self._order_of_columns(one, other) if isinstance(other, str) else self.about(one, other)
        if isinstance(other, str):
            less, same = self.about(other, one)
            return self.full ^ less ^ same, same
        return self.full if one < other else 0, self.full if one == other else 0

    def about(self, column, number):
        """Return the sets of the choices in which a column is less than an integer, and equal to it."""
        scale, sets = self._scale(column)
        place = count_below(scale, number)
        if place < len(scale) and scale[place] == number:
            return sets[place], sets[place] ^ sets[place + 1]
        return sets[place], 0

    def _order_of_columns(self, one, other):
        """Return the sets of the choices in which one column is less than another, and equal to it."""
        if (one, other) not in self._orders:
            scale, sets = self._scale(other)
            less = 0
            same = 0
            for place, number in enumerate(scale):
                here = sets[place] ^ sets[place + 1]
                below, level = self.about(one, number)
                less = less | (here & below)
                same = same | (here & level)
            self._orders[one, other] = (less, same)
        return self._orders[one, other]

    def _scale(self, column):
        """Return the ascending integers of a column, and for each k the set in which it has one of the k least."""
        if column not in self._scales:
            table = self._sets_by_number(column)
            scale = sorted(table)
            sets = [0]
            for number in scale:
                sets.append(sets[-1] | table[number])
            self._scales[column] = (scale, sets)
        return self._scales[column]

    def _sets_by_number(self, column):
        """Return a dict from the integers of a column to the sets of the choices in which it has them."""
        stride = self._many
        for columns, rows in self._parts:
            period = stride
            stride = period // len(rows)
            if column in columns:
                break
        place = columns.index(column)
        start = _repeated(period, self._many // period)
        found = {}
        for at, row in enumerate(rows):
            here = ((start << stride) - start) << (at * stride)
            found[row[place]] = found.get(row[place], 0) | here
        return found

    def plain(self, given):
        """Return the set of the choices that are canonical tuples on the line of some ascending integers.

        Each part has one column here, and the candidates of the given integers as its rows.
        """
        used = {}
        for columns, _ in self._parts:
            scale, sets = self._scale(columns[0])
            for place, number in enumerate(scale):
                used[number] = used.get(number, 0) | (sets[place] ^ sets[place + 1])
        found = self.full
        for number in used:
            nearer = number + 1 if given and number < given[0] else number - 1
            if number not in given and nearer not in given and nearer in used:
                found = found & (self.full ^ used[number] | used[nearer])
        return found
