"""Rests of a stream: as tuples of integers, and sets of them."""
from needrows.base.choices import Choices, first_member
from needrows.base.numbers import candidates
from needrows.errors import TooMany

MOST_ROWS = 12
MANY_COLUMNS = 3
MOST_BESIDE_MANY = 6


def most_rows(question, stream):
    """Return how many different rows of a stream are not yet too many."""
    return MOST_BESIDE_MANY if len(question.rest_columns(stream)) >= MANY_COLUMNS else MOST_ROWS


def check_few(question, stream, rows):
    """Raise an error if there are more different rows than the limit."""
    limit = most_rows(question, stream)
    if len(set(rows)) > limit:
        raise TooMany(limit)


def given_numbers(question, rows):
    """Return the ascending list of all integers of some rows, and of all points."""
    numbers = [number for row in rows for number in row]
    numbers.extend(list(question.points))
    return sorted(set(numbers))


def rest_of(question, stream, numbers):
    """Return the rest with these integers, in the order of the streams and their columns."""
    rest = {}
    start = 0
    for other in question.others(stream):
        end = start + len(question.columns_of(other))
        rest[other] = tuple(numbers[start:end])
        start = end
    return rest


def numbers_of(question, stream, rest):
    """Return the tuple of the integers of a rest, in the order of the streams and their columns."""
    return tuple([number for other in question.others(stream) for number in rest[other]])


class Rests:
    """Sets of rests of a stream, for what depends only on the orders that rests have among some rows.

    The rests have the integers of the rows, the points, and in each gap between these so many of the nearest ones
    as a rest has integers. So each order that a rest can have among the rows is the order of at least one of them.
    A set of rests is an integer, as a set of choices is.
    """

    def __init__(self, question, stream, rows):
        self._question = question
        self._stream = stream
        self._given = given_numbers(question, rows)
        self._columns = question.rest_columns(stream)
        numbers = [(number,) for number in candidates(self._given, len(self._columns))]
        self._choices = Choices([((column,), numbers) for column in self._columns])
        self._regions = {}

    def region(self, row):
        """Return the set of the rests with which a row rings."""
        if row not in self._regions:
            numbers = dict(zip(self._question.columns_of(self._stream), row))
            self._regions[row] = self._choices.where(self._question.condition, numbers)
        return self._regions[row]

    def regions(self, rows):
        """Return a dict from the different ones of some rows, ascending, to their regions."""
        return {row: self.region(row) for row in sorted(set(rows))}

    def plain(self):
        """Return the set of the rests whose integers are a canonical tuple on the line of the rows and the points."""
        return self._choices.plain(self._given)

    def clear_of(self, spans):
        """Return the set of the rests none of whose integers lies in one of some spans."""
        found = self._choices.full
        for least, greatest in spans:
            for column in self._columns:
                found = found & (self._choices.less(column, least) | self._choices.less(greatest, column))
        return found

    def rest_at(self, number):
        """Return the rest with a number."""
        numbers = [row[0] for row in self._choices.rows_at(number)]
        return rest_of(self._question, self._stream, numbers)

    def first_of(self, found):
        """Return a rest in a set that is not empty."""
        return self.rest_at(first_member(found))


def lean_cover(target, regions):
    """Return the list of the rows that stay if those that a set of rests does not need are left out one by one.

    The regions of all rows together contain the set, and so do those of the rows that stay.
    """
    behind = [0]
    for row in reversed(list(regions)):
        behind.append(behind[-1] | regions[row])
    left = []
    for row in regions:
        behind.pop()
        # What the rows that stay and those that are not yet tried leave of the set is what needs this row.
        missing = target & (target ^ behind[-1])
        if missing != 0:
            left.append(row)
            target = target & (target ^ regions[row])
    return left


def is_within(target, sets):
    """Return whether a set of rests lies within the union of some others."""
    for one in sets:
        target = target & (target ^ one)
    return target == 0


def lone_rests(regions):
    """Return the set of the rests that ring with just one of some rows, by a dict of their regions."""
    once = 0
    again = 0
    for row in regions:
        again = again | (once & regions[row])
        once = once | regions[row]
    return once ^ again
