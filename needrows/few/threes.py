"""The standard rises of three rows of all kinds of a stream, and the rests about them."""
from needrows.cover.rests import Rests
from needrows.rises.kinds import all_kinds
from needrows.rises.standard import spans_of, standard_rows


class Threes:
    """The standard rise of three rows of each kind of a stream, and sets of rests of the stream.

    All these rises have their numbers on the same steps, so one set of rests has the orders among each of them.
    """

    def __init__(self, question, stream):
        self._question = question
        self._stream = stream
        self._rises = {kind: standard_rows(question, stream, kind, 3) for kind in all_kinds(question, stream)}
        rows = [row for kind in self._rises for row in self._rises[kind]]
        self._rests = Rests(question, stream, rows)

    def every_kind(self):
        """Return the ascending list of all kinds of the stream."""
        return list(self._rises)

    def needing(self, kind):
        """Return the set of those of the rests that make needs of a kind."""
        first, middle, third = [self._rests.region(row) for row in self._rises[kind]]
        found = middle & (middle ^ (first | third))
        return self._clear(kind, found) if found else 0

    def spreading(self, kind):
        """Return the set of those of the rests that make spreads of a kind."""
        first, middle, third = [self._rests.region(row) for row in self._rises[kind]]
        found = (first | middle | third) ^ (first & middle & third)
        return self._clear(kind, found) if found else 0

    def rest_in(self, found):
        """Return a rest in a set that is not empty."""
        return self._rests.first_of(found)

    def _clear(self, kind, found):
        """Return the set of those in a set of rests that are clear of the first and of the third row of a kind."""
        for row in self._rises[kind][::2]:
            found = found & self._rests.clear_of(spans_of(self._question, self._stream, kind, row))
        return found
