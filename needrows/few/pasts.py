"""Pasts: rows that can be read out of whatever kept them."""
from needrows.ask.logs import entries_in, is_rest
from needrows.ask.questions import check_rows, fits, numbers_in
from needrows.base.choices import Choices
from needrows.base.numbers import is_whole
from needrows.cover.rests import Rests, check_few, lone_rests
from needrows.errors import InvalidNumber, InvalidOperation, InvalidRest, TooMany
from needrows.few.needs import is_need
from needrows.rises.standard import check_index, placed_rest, standard_rows

MAX_PAST = 60


class Past:
    """Rows of a stream, and for each of them a rest that rings with it and with no other one; it never changes."""

    def __init__(self, question, stream, rows, rests):
        check_rows(question, stream, rows)
        check_rests(question, stream, rests)
        if not _is_past(question, stream, rows, rests):
            raise InvalidOperation("the rests do not ring with one row each")
        if len(rows) > MAX_PAST:
            raise TooMany(MAX_PAST)
        self._question = question
        self._stream = stream
        self._rows = rows
        self._rests = _new_rests(question, stream, rests)

    @classmethod
    def of_need(cls, question, stream, need, many):
        """Return the past that a need gives, with so many rows."""
        if not is_need(question, stream, need):
            raise InvalidOperation("not a need of the stream")
        if not is_whole(many) or not 0 <= many <= MAX_PAST:
            raise InvalidNumber(many)
        _, kind, rest = need
        rows = standard_rows(question, stream, kind, many) if many > 0 else ()
        three = standard_rows(question, stream, kind, 3)
        rests = [placed_rest(question, stream, rest, three, rows, index) for index in range(many)]
        return _past(question, stream, rows, tuple(rests))

    @classmethod
    def of_rows(cls, question, stream, rows):
        """Return any past with these rows, in this order."""
        check_rows(question, stream, rows)
        check_few(question, stream, rows)
        rests = Rests(question, stream, rows)
        regions = rests.regions(rows)
        alone = lone_rests(regions)
        if len(regions) < len(rows) or 0 in [regions[row] & alone for row in rows]:
            raise InvalidOperation("the rows are repeated, or one has no reason beside the others")
        return _past(question, stream, rows, tuple([rests.first_of(regions[row] & alone) for row in rows]))

    @property
    def question(self):
        """The question."""
        return self._question

    @property
    def stream(self):
        """The stream whose rows these are."""
        return self._stream

    @property
    def rows(self):
        """The tuple of the rows."""
        return self._rows

    @property
    def rests(self):
        """The tuple of the rests, one for each row."""
        return _new_rests(self._question, self._stream, self._rests)

    def only(self, *indices):
        """Return the past of these indices, in this order."""
        return self.only_all(indices)

    def only_all(self, indices):
        """Return the past of a tuple of indices, in this order."""
        if not isinstance(indices, tuple):
            raise InvalidOperation("not a tuple of indices")
        for index in indices:
            check_index(index, len(self._rows))
        if len(set(indices)) < len(indices):
            raise InvalidOperation("an index is repeated")
        rows = [self._rows[index] for index in indices]
        rests = [self._rests[index] for index in indices]
        return _past(self._question, self._stream, tuple(rows), tuple(rests))

    def asking(self, index):
        """Return the log of the rest with this index."""
        check_index(index, len(self._rows))
        return self._asking(index)

    def _asking(self, index):
        """Return the log of the rest with an index that is there."""
        return entries_in(self._question, self._stream, self._rests[index])

    def parting(self, some, others):
        """Return the log of the rest with the least index that is in exactly one of two tuples of indices."""
        self._check_indices(some)
        self._check_indices(others)
        if some == others:
            raise InvalidOperation("the indices are equal")
        return self._asking(min([index for index in some + others if index not in some or index not in others]))

    def _check_indices(self, value):
        """Raise an error unless a value is an ascending tuple of indices."""
        if not isinstance(value, tuple) or not all([is_whole(one) and 0 <= one < len(self._rows) for one in value]):
            raise InvalidOperation("not a tuple of indices")
        if list(value) != sorted(set(value)):
            raise InvalidOperation("not ascending")

    def write(self, number):
        """Return the log of those rows whose binary digits are 1 in a number."""
        self._check_number(number)
        return tuple([(self._stream, row) for index, row in enumerate(self._rows) if (number >> index) & 1 == 1])

    def _check_number(self, number):
        """Raise an error unless a value is a number that can be written into the rows."""
        if not is_whole(number) or not 0 <= number < (1 << len(self._rows)):
            raise InvalidNumber(number)

    def read(self, asked):
        """Return the ascending tuple of the indices of the rests for whose logs a function returns True."""
        return tuple([index for index in range(len(self._rows)) if self._is_there(index, asked)])

    def read_number(self, asked):
        """Return the number that writes the rows for the logs of whose rests a function returns True."""
        return sum([1 << index for index in self.read(asked)])

    def wrong_at(self, number, asked):
        """Return the least index at which a number and what a function returns disagree, or None."""
        self._check_number(number)
        for index in range(len(self._rows)):
            if self._is_there(index, asked) != ((number >> index) & 1 == 1):
                return index
        return None

    def _is_there(self, index, asked):
        """Return what a function returns for the log of a rest, True or False."""
        told = asked(self._asking(index))
        if told is True or told is False:
            return told
        raise InvalidOperation("neither True nor False")

    def __len__(self):
        return len(self._rows)

    def __contains__(self, value):
        return fits(self._question, self._stream, value) and value in self._rows

    def __eq__(self, other):
        if not isinstance(other, Past) or self._question != other._question or self._stream != other._stream:
            return False
        return self._rows == other._rows and self._rests == other._rests

    def __str__(self):
        return f"past of {len(self._rows)} rows of {self._stream}"


def check_rests(question, stream, rests):
    """Raise an error unless a value is a tuple of rests of a stream that is there."""
    if not isinstance(rests, tuple) or not all([is_rest(question, stream, rest) for rest in rests]):
        raise InvalidRest("not a tuple of rests of the stream")


def _new_rests(question, stream, rests):
    """Return the tuple of new dicts of some rests, their streams ascending."""
    others = question.others(stream)
    return tuple([{other: rest[other] for other in others} for rest in rests])


def _past(question, stream, rows, rests):
    """Return the past of rows and rests that are known to be one."""
    made = Past(question, stream, (), ())
    made._rows = rows
    made._rests = rests
    return made


def _is_past(question, stream, rows, rests):
    """Return whether checked rows and rests are a past."""
    ascending = sorted(set(rows))
    if len(rows) != len(rests) or len(ascending) < len(rows):
        return False
    if not rows:
        return True
    choices = Choices([(question.columns_of(stream), ascending)])
    where = {row: 1 << place for place, row in enumerate(ascending)}
    for row, rest in zip(rows, rests):
        if choices.where(question.condition, numbers_in(question, rest)) != where[row]:
            return False
    return True
