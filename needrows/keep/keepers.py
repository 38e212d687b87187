"""Keepers: they take entries as they come, and hold of each stream only rows that can still be needed."""
from needrows.ask.logs import check_log, fits_entry, rings_among
from needrows.ask.questions import check_question, check_row
from needrows.base.numbers import is_whole
from needrows.cover.kept import kept_part
from needrows.cover.regions import found_reason
from needrows.errors import InvalidNumber, InvalidOperation, NothingToUndo
from needrows.keep.states import both_held, check_state, entries_held, made_state, with_entries


class Moment:
    """What a keeper holds at a moment, and the moment before it, if one can go back to it; it never changes."""

    def __init__(self, held, rung, came, before):
        self._held = held
        self._has_rung = rung
        self._came = came
        self._before = before
        self._steps = 0 if before is None else before._steps + 1


class Trial:
    """At the end of a block the keeper is as at its beginning."""

    def __init__(self, keeper):
        self._keeper = keeper
        self._begun = None

    def __enter__(self):
        self._begun = self._keeper._now
        return self._keeper

    def __exit__(self, kind, value, trace):
        keeper = self._keeper
        keeper._now = self._begun


class Keeper:
    """Takes entries as they come, and answers as if it had kept all rows."""

    def __init__(self, question):
        check_question(question)
        self._question = question
        self._now = Moment({stream: () for stream in question.streams}, False, 0, None)

    @classmethod
    def of_log(cls, question, log):
        """Return a keeper to which the entries of a log came."""
        made = Keeper(question)
        made.put_all(log)
        now = made._now
        made._now = Moment(now._held, now._has_rung, now._came, None)
        return made

    @classmethod
    def of_state(cls, state):
        """Return a keeper to which the entries of the rows of a state came."""
        check_state(state)
        return _keeper_of(state.question, state.rows, len(state))

    @property
    def question(self):
        """The question."""
        return self._question

    @property
    def rows(self):
        """The dict from all streams to the tuples of the held rows."""
        held = self._now._held
        return {stream: held[stream] for stream in held}

    @property
    def has_rung(self):
        """Whether the log of all entries that came rings."""
        return self._now._has_rung

    @property
    def came(self):
        """The number of the entries that came."""
        return self._now._came

    def put(self, stream, row):
        """Take an entry, and return whether the keeper has rung."""
        check_row(self._question, stream, row)
        self._now = _moment_after(self._question, self._now, stream, row)
        return self._now._has_rung

    def put_all(self, log):
        """Take the entries of a log, all or none of them, and return whether the keeper has rung."""
        check_log(self._question, log)
        now = self._now
        for stream, row in log:
            now = _moment_after(self._question, now, stream, row)
        self._now = now
        return now._has_rung

    def would_ring(self, log):
        """Return whether the keeper has rung, or would if the entries of a log came, too."""
        check_log(self._question, log)
        return self._now._has_rung or rings_among(self._question, with_entries(self._now._held, log))

    def reason(self, stream, row):
        """Return any reason of a held row beside the other held ones of its stream."""
        check_row(self._question, stream, row)
        held = self._now._held[stream]
        if row not in held:
            raise InvalidOperation("the row is not held")
        return found_reason(self._question, stream, row, [one for one in held if one != row])

    def checkpoint(self):
        """Return the state of the held rows."""
        return made_state(self._question, self._now._held)

    def undo(self, *, many=1):
        """Take back the last entries, as if they had not come, and return the number of those that came."""
        if not is_whole(many) or many < 0:
            raise InvalidNumber(many)
        if many > self._now._steps:
            raise NothingToUndo(many)
        for _ in range(many):
            self._now = self._now._before
        return self._now._came

    def trial(self):
        """Return what makes a block at whose end the keeper is as at its beginning."""
        return Trial(self)

    def during(self, call):
        """Return what a function of the keeper returns in such a block."""
        with self.trial() as one:
            return call(one)

    def twin(self):
        """Return an independent equal keeper, with the same entries to be taken back."""
        made = Keeper(self._question)
        made._now = self._now
        return made

    def joined(self, other):
        """Return a new keeper for the entries of both."""
        if not isinstance(other, Keeper) or self._question != other._question:
            raise InvalidOperation("not a keeper of an equal question")
        held = both_held(self._now._held, other._now._held)
        return _keeper_of(self._question, held, self._now._came + other._now._came)

    def __len__(self):
        return len(entries_held(self._now._held))

    def __contains__(self, value):
        return fits_entry(self._question, value) and value[1] in self._now._held[value[0]]

    def __eq__(self, other):
        if not isinstance(other, Keeper) or self._question != other._question:
            return False
        return _are_equal(self._now, other._now)

    def __str__(self):
        return f"keeper of {len(entries_held(self._now._held))} rows, {_text_of(self._now)}"


def _are_equal(one, other):
    """Return whether keepers hold the same at two moments, and as many entries have come."""
    return one._held == other._held and one._has_rung == other._has_rung and one._came == other._came


def _text_of(now):
    """Return the text of how many entries have come at a moment, and whether they ring."""
    return f"{now._came} came, rung" if now._has_rung else f"{now._came} came"


def _keeper_of(question, rows, came):
    """Return a keeper to which so many entries came that have these rows, in a dict from all streams."""
    made = Keeper(question)
    held = {stream: kept_part(question, stream, rows[stream]) for stream in rows}
    made._now = Moment(held, rings_among(question, held), came, None)
    return made


def _moment_after(question, now, stream, row):
    """Return the moment behind another one and an entry."""
    held = now._held
    rung = now._has_rung
    if row not in held[stream]:
        # Rows that came and are not held are covered by held ones: so these tell whether all entries ring.
        rung = rung or rings_among(question, {**held, stream: (row,)})
        rows = tuple(sorted((*held[stream], row)))
        held = {**held, stream: kept_part(question, stream, rows)}
    return Moment(held, rung, now._came + 1, now)
