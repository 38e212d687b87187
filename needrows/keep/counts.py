"""Counting matches: spreads, classes of exchangeable rows, and counters."""
from needrows.ask.logs import check_log, is_rest, told_by
from needrows.ask.questions import check_question, check_row, check_rows, check_stream, fits, numbers_in
from needrows.base.choices import Choices
from needrows.base.numbers import Line, is_whole
from needrows.cover.rests import Rests
from needrows.errors import InvalidNumber, InvalidOperation, TooMany
from needrows.few.pasts import check_rests
from needrows.few.threes import Threes
from needrows.rises.kinds import is_kind
from needrows.rises.standard import is_clear_of, placed_rest, standard_rows

MAX_CLASSES = 12
LEAST_PAST = 2
MOST_PAST = 8


def count(question, log):
    """Return the number of ways to choose one entry of each stream such that the rows are a match."""
    check_log(question, log)
    return _ways(question, _with_log({stream: () for stream in question.streams}, log))


def _with_log(numbers, log):
    """Return a dict from streams to dicts from rows to numbers, for one to pairs of these and the entries of a log."""
    found = {}
    for stream in numbers:
        table = {row: number for row, number in numbers[stream]}
        for name, row in log:
            if name == stream:
                table[row] = table.get(row, 0) + 1
        found[stream] = table
    return found


def _ways(question, numbers):
    """Return the number of ways to choose a match, by a dict from all streams to dicts from rows to their numbers."""
    fewest = min([(len(numbers[stream]), stream) for stream in numbers])[1]
    if not numbers[fewest]:
        return 0
    others = [stream for stream in numbers if stream != fewest]
    choices = Choices([(question.columns_of(stream), sorted(numbers[stream])) for stream in others])
    digits = choices.full.bit_length()
    # The digits of a set begin with the greatest number of a choice, so the rows are turned round.
    tables = [[numbers[stream][row] for row in sorted(numbers[stream], reverse=True)] for stream in others]
    total = 0
    kept = {}
    for row in numbers[fewest]:
        found = choices.where(question.condition, dict(zip(question.columns_of(fewest), row)))
        if found != 0:
            total = total + numbers[fewest][row] * _weight(f"{found:b}".zfill(digits), tables, kept)
    return total


def _weight(digits, tables, kept):
    """Return the sum of the products of the numbers of the rows in each choice of a set, by the digits of the set.

    There is a table of numbers for each stream. What was worked out before is in a dict.
    """
    if (len(tables), digits) not in kept:
        first, *others = tables
        total = 0
        if others:
            size = len(digits) // len(first)
            for place, number in enumerate(first):
                block = digits[place * size:(place + 1) * size]
                if "1" in block:
                    total = total + number * _weight(block, others, kept)
        else:
            total = sum([number for number, digit in zip(first, digits) if digit == "1"])
        kept[len(tables), digits] = total
    return kept[len(tables), digits]


def counts(question, stream, rows, rests):
    """Return the tuple that tells for each rest with how many of the rows it rings."""
    check_rows(question, stream, rows)
    check_rests(question, stream, rests)
    if not rows:
        return (0,) * len(rests)
    choices = Choices([(question.columns_of(stream), sorted(rows))])
    found = [choices.where(question.condition, numbers_in(question, rest)) for rest in rests]
    return tuple([f"{one:b}".count("1") for one in found])


def count_paper(question, stream):
    """Return any count paper."""
    check_stream(question, stream)
    spread = _any_spread(question, stream)
    if spread is not None:
        return spread
    regions = _even_regions(question, stream)
    first = {}
    for row in regions:
        first.setdefault(regions[row], row)
    return ("even", tuple(first.values()))


def _any_spread(question, stream):
    """Return any spread of a stream that is there, or None."""
    threes = Threes(question, stream)
    for kind in threes.every_kind():
        found = threes.spreading(kind)
        if found:
            return ("spread", kind, threes.rest_in(found))
    return None


def _even_regions(question, stream):
    """Return a dict from rows, one of each order of the columns and the points, ascending, to their regions."""
    many = len(question.columns_of(stream))
    line = Line.of(question.points)
    rows = list(line.placements(many))
    return Rests(question, stream, rows).regions(rows)


def is_count_paper(question, stream, value):
    """Return whether the value is a count paper."""
    check_stream(question, stream)
    if not isinstance(value, tuple) or len(value) != 2 or value[0] != "even":
        return _is_spread(question, stream, value)
    rows = value[1]
    if not isinstance(rows, tuple) or not all([fits(question, stream, row) for row in rows]):
        return False
    if list(rows) != sorted(set(rows)) or _any_spread(question, stream) is not None:
        return False
    regions = _even_regions(question, stream)
    line = Line.of(question.points)
    # Without a spread, rows whose columns compare alike with one another and with the points are exchangeable.
    found = [regions[line.canonical_of(row)] for row in rows]
    return len(set(found)) == len(found) == len({regions[row] for row in regions})


def _is_spread(question, stream, value):
    """Return whether a value is a spread of a stream that is there."""
    if not isinstance(value, tuple) or len(value) != 3 or value[0] != "spread":
        return False
    _, kind, rest = value
    if not is_kind(question, stream, kind) or not is_rest(question, stream, rest):
        return False
    three = standard_rows(question, stream, kind, 3)
    told = told_by(question, stream, three, rest)
    if True not in told or False not in told:
        return False
    return all([is_clear_of(question, stream, kind, row, rest) for row in three[::2]])


def count_past(question, stream, spread, many):
    """Return any count past with so many rows."""
    check_stream(question, stream)
    if not _is_spread(question, stream, spread):
        raise InvalidOperation("not a spread of the stream")
    if not is_whole(many) or not LEAST_PAST <= many <= MOST_PAST:
        raise InvalidNumber(many)
    _, kind, rest = spread
    three = standard_rows(question, stream, kind, 3)
    told = told_by(question, stream, three, rest)
    # A rest that rings with the rows on one side alone counts one more of them than there are in front, or behind.
    front = 1 if told == [True, False, False] else 0
    behind = 1 if told == [False, False, True] else 0
    rows = standard_rows(question, stream, kind, many + front + behind)
    rests = [placed_rest(question, stream, rest, three, rows, front + place) for place in range(many)]
    return (rows[behind:behind + many], tuple(rests))


def is_count_past(question, stream, value):
    """Return whether the value is a count past with at most eight rows."""
    check_stream(question, stream)
    if not isinstance(value, tuple) or len(value) != 2:
        return False
    rows, rests = value
    if not isinstance(rows, tuple) or not isinstance(rests, tuple) or len(rows) > MOST_PAST or len(rests) != len(rows):
        return False
    if not all([fits(question, stream, row) for row in rows]):
        return False
    return all([is_rest(question, stream, rest) for rest in rests]) and _are_apart(question, stream, rows, rests)


def _are_apart(question, stream, rows, rests):
    """Return whether each two sets of at most eight rows have unlike counts; so equal rows are not apart."""
    told = [told_by(question, stream, rows, rest) for rest in rests]
    # The counts of a set are one integer, with four binary digits for each rest.
    sums = [0]
    for place in range(len(rows)):
        ones = sum([1 << (4 * at) for at, one in enumerate(told) if one[place]])
        sums = sums + [one + ones for one in sums]
    return len(set(sums)) == len(sums)


class Counter:
    """The first row that came of each class of exchangeable rows, and how many rows of the class came."""

    def __init__(self, question):
        check_question(question)
        self._question = question
        self._classes = {stream: () for stream in question.streams}
        self._came = 0

    @property
    def question(self):
        """The question."""
        return self._question

    @property
    def came(self):
        """The number of the entries that came."""
        return self._came

    def put(self, stream, row):
        """Take an entry."""
        check_row(self._question, stream, row)
        self._take(((stream, row, 1),))

    def put_all(self, log):
        """Take the entries of a log, all or none of them."""
        check_log(self._question, log)
        self._take(tuple([(stream, row, 1) for stream, row in log]))

    def _take(self, many_entries):
        """Take some triples of a stream, a row, and how often this came."""
        classes = dict(self._classes)
        came = self._came
        for stream, row, number in many_entries:
            classes[stream] = _counted(self._question, stream, classes[stream], row, number)
            came = came + number
        self._classes = classes
        self._came = came

    def total(self):
        """Return the count of all that came."""
        return self.total_with(())

    def total_with(self, log):
        """Return what the count would be behind a log."""
        check_log(self._question, log)
        return _ways(self._question, _with_log(self._classes, log))

    def classes(self, stream):
        """Return the tuple of the pairs of a row and the number of the rows of its class that came."""
        check_stream(self._question, stream)
        return self._classes[stream]

    def joined(self, other):
        """Return the counter behind the entries of both."""
        if not isinstance(other, Counter) or self._question != other._question:
            raise InvalidOperation("not a counter of an equal question")
        made = self.twin()
        classes = other._classes
        made._take(tuple([(stream, row, number) for stream in classes for row, number in classes[stream]]))
        return made

    def twin(self):
        """Return an independent equal counter."""
        made = Counter(self._question)
        made._classes = self._classes
        made._came = self._came
        return made

    def __len__(self):
        return len([row for stream in self._classes for row, _ in self._classes[stream]])

    def __eq__(self, other):
        if not isinstance(other, Counter) or self._question != other._question:
            return False
        return self._classes == other._classes

    def __str__(self):
        return f"counter of {self._came} entries"


def _counted(question, stream, classes, row, number):
    """Return the tuple of pairs of a row and a number in which a row counts so many times more."""
    place = _place(question, stream, classes, row)
    if place < len(classes):
        first, before = classes[place]
        return (*classes[:place], (first, before + number), *classes[place + 1:])
    if place == MAX_CLASSES:
        raise TooMany(MAX_CLASSES)
    return (*classes, (row, number))


def _place(question, stream, classes, row):
    """Return the index of the class to which a row belongs, or the number of the classes."""
    firsts = [first for first, _ in classes]
    if row in firsts:
        return firsts.index(row)
    rests = Rests(question, stream, [row, *firsts])
    region = rests.region(row)
    for place, first in enumerate(firsts):
        if rests.region(first) == region:
            return place
    return len(firsts)
