"""Integers, names, and lines of given integers."""
from needrows.errors import InvalidNumber, InvalidOperation

LONGEST_NAME = 8
MOST_PLACED = 4


def is_whole(value):
    """Whether the value is an integer; True and False are none."""
    return isinstance(value, int) and not isinstance(value, bool)


def are_whole(value):
    """Whether the value is a tuple of integers."""
    return isinstance(value, tuple) and all([is_whole(one) for one in value])


def check_whole(value):
    """Raise an error unless the value is an integer."""
    if not is_whole(value):
        raise InvalidOperation("not an integer")


def check_all_whole(value):
    """Raise an error unless the value is a tuple of integers."""
    if not are_whole(value):
        raise InvalidOperation("not a tuple of integers")


def is_name(value):
    """Whether the value is a name."""
    if not isinstance(value, str) or not 1 <= len(value) <= LONGEST_NAME:
        return False
    return all(["a" <= letter <= "z" for letter in value])


def compare(one, other):
    """Return -1, 0 or 1 if the first integer is less than, equal to or greater than the second one."""
    check_whole(one)
    check_whole(other)
    if one < other:
        return -1
    return 1 if one > other else 0


def count_below(ascending, number):
    """Return how many of some ascending integers are less than an integer, found by halving."""
    low = 0
    high = len(ascending)
    while low < high:
        middle = (low + high) // 2
        if ascending[middle] < number:
            low = middle + 1
        else:
            high = middle
    return low


class Line:
    """A finite set of given integers, which never changes."""

    def __init__(self, *numbers):
        check_all_whole(numbers)
        self._given = tuple(sorted(set(numbers)))

    @classmethod
    def of(cls, numbers):
        """Return the line of the integers in a tuple."""
        check_all_whole(numbers)
        return cls(*numbers)

    @property
    def given(self):
        """The ascending tuple of the given integers."""
        return self._given

    def __call__(self, number):
        """Return the place of an integer."""
        check_whole(number)
        return self._place(number)

    def room(self, place):
        """Return how many integers have a place, or None if there is no bound."""
        if not is_whole(place) or not 0 <= place <= 2 * len(self._given):
            raise InvalidNumber(place)
        below = place // 2
        if place % 2 == 1:
            return 1
        if below == 0 or below == len(self._given):
            return None
        return self._given[below] - self._given[below - 1] - 1

    def canonical(self, *values):
        """Return the canonical tuple that is placed alike with some integers."""
        return self.canonical_of(values)

    def canonical_of(self, values):
        """Return the canonical tuple that is placed alike with the integers in a tuple."""
        check_all_whole(values)
        placed = {}
        for value in sorted(set(values)):
            placed.setdefault(self._place(value), []).append(value)
        moved = {}
        for place, numbers in placed.items():
            for value, near in zip(numbers, self._nearest(place, len(numbers))):
                moved[value] = near
        return tuple([moved[value] for value in values])

    def are_alike(self, one, other):
        """Return whether two tuples of integers are placed alike."""
        return self.canonical_of(one) == self.canonical_of(other)

    def placements(self, many):
        """Yield all canonical tuples of so many integers, ascending."""
        if not is_whole(many) or not 0 <= many <= MOST_PLACED:
            raise InvalidNumber(many)
        yield from self._continued((), many)

    def _continued(self, begun, many):
        """Yield all canonical tuples that begin with some integers and go on with so many more."""
        if many == 0:
            yield begun
            return
        fewer = many - 1
        for value in self._following(begun, many):
            longer = (*begun, value)
            yield from self._continued(longer, fewer)

    def _following(self, begun, many):
        """Return the integers that can stand next, ascending, if so many more make a canonical tuple."""
        reach = self._reach(begun)
        nearer = [value for place in sorted(reach) for value in self._nearest(place, reach[place])]
        missing = [value for value in nearer if value not in begun]
        # Each missing integer must still come; only what is left of the places may reach farther out.
        spare = many - len(missing)
        if spare == 0:
            return missing
        places = range(2 * len(self._given) + 1)
        return [value for place in places for value in self._nearest(place, reach.get(place, 0) + spare)]

    def _reach(self, begun):
        """Return, for each place of some integers, how many integers lie there up to the farthest of them."""
        reach = {}
        for value in begun:
            place = self._place(value)
            if place == 0 and self._given:
                steps = self._given[0] - value
            else:
                steps = value - self._first(place, 1) + 1
            reach[place] = max(steps, reach.get(place, 0))
        return reach

    def _nearest(self, place, many):
        """Return so many of the nearest integers of a place, ascending, or all if there are fewer."""
        room = self.room(place)
        if room is not None:
            many = min(many, room)
        first = self._first(place, many)
        return list(range(first, first + many))

    def _first(self, place, many):
        """Return the least of so many nearest integers of a place."""
        if not self._given:
            return 0
        if place == 0:
            return self._given[0] - many
        if place % 2 == 1:
            return self._given[place // 2]
        return self._given[place // 2 - 1] + 1

    def _place(self, number):
        """Return the place of an integer."""
        below = count_below(self._given, number)
        if below < len(self._given) and self._given[below] == number:
            return 2 * below + 1
        return 2 * below

    def __or__(self, other):
        if not isinstance(other, Line):
            raise InvalidOperation("not a line")
        numbers = self._given + other._given
        return Line(*numbers)

    def __len__(self):
        return len(self._given)

    def __contains__(self, value):
        return is_whole(value) and value in self._given

    def __eq__(self, other):
        return isinstance(other, Line) and self._given == other._given

    def __str__(self):
        return f"line of {len(self._given)} integers"
