"""Integers, names, and lines of given integers."""
from needrows.errors import InvalidNumber, InvalidOperation

LONGEST_NAME = 8
MOST_PLACED = 4


def is_whole(value):
    """Whether the value is an integer; True and False are none."""
    return type(value) == int


def are_whole(value):
    """Whether the value is a tuple of integers."""
    if not isinstance(value, tuple):
        return False
    for one in value:
        if type(one) != int:
            return False
    return True


def check_whole(value):
    """Raise an error unless the value is an integer."""
    if not is_whole(value):
        raise InvalidOperation("not an integer")


def check_all_whole(value):
    """Raise an error unless the value is a tuple of integers."""
    if not are_whole(value):
        raise InvalidOperation("not a tuple of integers")


def is_name(value):
    """Whether the value is a name."""
    if not isinstance(value, str) or not value.islower():
        return False
    return value.isalpha() and value.isascii() and len(value) <= LONGEST_NAME


def are_names(values):
    """Whether all of some values are names."""
    for value in values:
        if not is_name(value):
            return False
    return True


def compare(one, other):
    """Return -1, 0 or 1 if the first integer is less than, equal to or greater than the second one."""
    check_whole(one)
    check_whole(other)
    if one < other:
        return -1
    return 1 if one > other else 0


def count_below(ascending, number):
    """Return how many of some ascending integers are less than an integer, found by halving."""
    low = 0
    high = len(ascending)
    while low < high:
        middle = (low + high) // 2
        if ascending[middle] < number:
            low = middle + 1
        else:
            high = middle
    return low


def candidates(given, many):
    """Return the ascending list of some ascending integers and of so many nearest ones in each of their gaps."""
    if not given:
        return list(range(many))
    found = list(range(given[0] - many, given[0]))
    for low, high in zip(given, given[1:]):
        found.append(low)
        found.extend(list(range(low + 1, min(low + many + 1, high))))
    last = given[-1]
    found.extend(list(range(last, last + many + 1)))
    return found


def _chains(given, many):
    """Return a dict from the candidates, ascending, to the lists of those in the same gap that are nearer.

    In each list the nearest one is the first one.
    """
    known = {value: True for value in given}
    chains = {}
    for value in candidates(given, many):
        if value in known:
            chains[value] = []
        elif given and value < given[0]:
            chains[value] = list(range(given[0] - 1, value, -1))
        else:
            nearest = given[count_below(given, value) - 1] + 1 if given else 0
            chains[value] = list(range(nearest, value))
    return chains


def _continued(begun, many, chains):
    """Yield all canonical tuples that begin with some integers and go on with so many more, one or more."""
    fewer = many - 1
    for value in _following(begun, many, chains):
        longer = (*begun, value)
        if fewer == 0:
            yield longer
        else:
            yield from _continued(longer, fewer, chains)


def _following(begun, many, chains):
    """Return the integers that can stand next, ascending, if so many more make a canonical tuple."""
    missing = sorted({near for value in begun for near in chains[value] if near not in begun})
    # Each missing integer must still come; only what is left of the places may reach farther out.
    spare = many - len(missing)
    if spare == 0:
        return missing
    there = (*begun, *missing)
    # Fewer than `spare` nearer integers lack: so the one that is so far from the end of the list is there.
    return [value for value, chain in chains.items() if len(chain) < spare or chain[-spare] in there]


class Line:
    """A finite set of given integers, which never changes."""

    def __init__(self, *numbers):
        check_all_whole(numbers)
        self._given = tuple(sorted(set(numbers)))

    @classmethod
    def of(cls, numbers):
        """Return the line of the integers in a tuple."""
        check_all_whole(numbers)
        return cls(*numbers)

    @property
    def given(self):
        """The ascending tuple of the given integers."""
        return self._given

    def __call__(self, number):
        """Return the place of an integer."""
        check_whole(number)
        return self._place(number)

    def room(self, place):
        """Return how many integers have a place, or None if there is no bound."""
        if not is_whole(place) or not 0 <= place <= 2 * len(self._given):
            raise InvalidNumber(place)
        below = place // 2
        if place % 2 == 1:
            return 1
        if below == 0 or below == len(self._given):
            return None
        return self._given[below] - self._given[below - 1] - 1

    def canonical(self, *values):
        """Return the canonical tuple that is placed alike with some integers."""
        return self.canonical_of(values)

    def canonical_of(self, values):
        """Return the canonical tuple that is placed alike with the integers in a tuple."""
        check_all_whole(values)
        given = self._given
        moved = {}
        near = self._first_near(values)
        passed = 0
        for value in sorted(set(values)):
            while passed < len(given) and given[passed] <= value:
                near = given[passed]
                passed = passed + 1
            if passed == 0 or near != value:
                near = near + 1
            moved[value] = near
        return tuple([moved[value] for value in values])

    def _first_near(self, values):
        """Return the integer behind which the canonical ones for some integers begin."""
        if not self._given:
            return -1
        lowest = self._given[0]
        return lowest - 1 - len({value for value in values if value < lowest})

    def are_alike(self, one, other):
        """Return whether two tuples of integers are placed alike."""
        check_all_whole(one)
        check_all_whole(other)
        before = one + self._given
        after = other + self._given
        low = sorted(set(before))
        high = sorted(set(after))
        if len(before) != len(after) or len(low) != len(high):
            return False
        # They are placed alike if an ascending change of integers that leaves the given ones takes one to the other.
        change = dict(zip(low, high))
        return tuple([change[value] for value in before]) == after

    def placements(self, many):
        """Yield all canonical tuples of so many integers, ascending."""
        if not is_whole(many) or not 0 <= many <= MOST_PLACED:
            raise InvalidNumber(many)
        if many == 0:
            yield ()
        else:
            chains = _chains(self._given, many)
            yield from _continued((), many, chains)

    def _place(self, number):
        """Return the place of an integer."""
        below = count_below(self._given, number)
        if below < len(self._given) and self._given[below] == number:
            return 2 * below + 1
        return 2 * below

    def __or__(self, other):
        if not isinstance(other, Line):
            raise InvalidOperation("not a line")
        numbers = self._given + other._given
        return Line(*numbers)

    def __len__(self):
        return len(self._given)

    def __contains__(self, value):
        return is_whole(value) and value in self._given

    def __eq__(self, other):
        return isinstance(other, Line) and self._given == other._given

    def __str__(self):
        return f"line of {len(self._given)} integers"
