"""Logs that can still come, and behind which rows they ring."""
from needrows.ask.logs import rings_among
from needrows.base.choices import Choices, first_member
from needrows.base.numbers import candidates
from needrows.cover.rests import given_numbers


class Later:
    """Sets of logs that can come behind some held rows: one entry of each of some streams, but not of all.

    They have the integers of the held rows, of the points and of the marks, and in each gap between these so many of
    the nearest ones as they have integers: so whatever can come compares with all of these as one of the logs does.
    """

    def __init__(self, question, entries, marks):
        """Take entries of all rows that can be held, and the marks that the logs obey."""
        self._question = question
        self._least = {}
        for mark in marks:
            if mark[0] == "from":
                _, _, column, number = mark
                self._least[column] = max(number, self._least.get(column, number))
        rows = [row for _, row in entries]
        rows.append(tuple(self._least.values()))
        self._given = given_numbers(question, rows)
        self._streams = [stream for stream in question.streams if ("shut", stream) not in marks]
        self._choices = {}
        self._kept = {}

    def parting(self, first, second):
        """Return a log that rings behind exactly one of two dicts from all streams to held rows, or None."""
        told = rings_among(self._question, first)
        if told != rings_among(self._question, second):
            return ()
        if told or first == second:
            return None
        for streams in self._sets_of_streams():
            found = self._rung(streams, first) ^ self._rung(streams, second)
            if found != 0:
                numbers = self._choices[streams].numbers_at(first_member(found))
                return tuple([(stream, self._row(stream, numbers)) for stream in streams])
        return None

    def _row(self, stream, numbers):
        """Return the row of a stream with the integers of a dict."""
        return tuple([numbers[column] for column in self._question.columns_of(stream)])

    def _sets_of_streams(self):
        """Return the list of the tuples of streams of which entries come, one or more but not all, shorter first."""
        found = [()]
        for stream in self._streams:
            found = found + [(*some, stream) for some in found]
        return sorted([some for some in found if 0 < len(some) < len(self._question)], key=len)

    def _rung(self, streams, held):
        """Return the set of the logs with an entry of each of some streams that ring behind rows that do not ring."""
        picks = [()]
        for stream in self._question.streams:
            rows = (None, *held[stream]) if stream in streams else held[stream]
            picks = [(*pick, row) for pick in picks for row in rows]
        found = 0
        for pick in picks:
            if None in pick:
                found = found | self._where(streams, pick)
        return found

    def _where(self, streams, pick):
        """Return the set of the logs that ring with one row of each stream, None for those that the log has itself."""
        if (streams, pick) not in self._kept:
            numbers = {}
            for stream, row in zip(self._question.streams, pick):
                if row is not None:
                    numbers.update(dict(zip(self._question.columns_of(stream), row)))
            self._kept[streams, pick] = self._choices_for(streams).where(self._question.condition, numbers)
        return self._kept[streams, pick]

    def _choices_for(self, streams):
        """Return the choices of integers for the columns of some streams."""
        if streams not in self._choices:
            columns = [column for stream in streams for column in self._question.columns_of(stream)]
            near = candidates(self._given, len(columns))
            parts = [((column,), self._allowed(column, near)) for column in columns]
            self._choices[streams] = Choices(parts)
        return self._choices[streams]

    def _allowed(self, column, numbers):
        """Return the list of those rows of one integer for a column that the marks allow."""
        if column not in self._least:
            return [(number,) for number in numbers]
        return [(number,) for number in numbers if number >= self._least[column]]
