"""A shell: keepers under names, and commands that are lines of text."""
from needrows.base.numbers import is_name
from needrows.errors import InvalidCommand, InvalidNumber, InvalidOperation, NothingToUndo, ParseError, RowsError
from needrows.errors import TooMany, UnknownName
from needrows.few.papers import is_few, stream_paper
from needrows.keep.keepers import Keeper
from needrows.keep.states import parting_log, spare_rows
from needrows.text.formats import format_log, format_paper, format_question, format_rest, format_state
from needrows.text.formats import parse_log, parse_question
from needrows.text.reader import MOST_DIGITS

MAX_KEEPERS = 10
NO_NAMES = "-"


def _open_keeper(keepers, name, text):
    """Put a keeper of a question under a new name."""
    keepers[name] = Keeper(parse_question(text))
    return "ok"


def _copy_keeper(keepers, name, new):
    """Put a twin of a keeper under a new name."""
    keepers[new] = keepers[name].twin()
    return "ok"


def _join_keepers(keepers, name, other, new):
    """Put the keeper joined from two others under a new name."""
    keepers[new] = keepers[name].joined(keepers[other])
    return "ok"


def _close_keeper(keepers, name):
    """Leave out a keeper."""
    del keepers[name]
    return "ok"


def _put_log(keepers, name, text):
    """Give the entries of a log to a keeper."""
    keeper = keepers[name]
    return _word_for(keeper.put_all(parse_log(keeper.question, text)))


def _word_for(told):
    """Return the word for whether a keeper has rung, or would."""
    return "rung" if told else "quiet"


def _undo_some(keepers, name, digits):
    """Take back the last entries of a keeper."""
    return str(keepers[name].undo(many=int(digits)))


def _tell_names(keepers):
    """Return the names of all keepers."""
    return " ".join(sorted(keepers)) if keepers else NO_NAMES


def _tell_question(keepers, name):
    """Return the text of the question of a keeper."""
    return format_question(keepers[name].question)


def _tell_held(keepers, name):
    """Return the text of the state of the held rows of a keeper."""
    return format_state(keepers[name].checkpoint())


def _tell_would(keepers, name, text):
    """Return whether a keeper would have rung behind a log."""
    keeper = keepers[name]
    return _word_for(keeper.would_ring(parse_log(keeper.question, text)))


def _tell_reason(keepers, name, text):
    """Return the text of a reason of a held row of a keeper."""
    keeper = keepers[name]
    log = parse_log(keeper.question, text)
    if len(log) != 1:
        raise ParseError("not one entry")
    stream, row = log[0]
    return format_rest(keeper.question, stream, keeper.reason(stream, row))


def _tell_few(keepers, name, stream):
    """Return whether few rows of a stream are enough, or there are needs."""
    return "few" if is_few(keepers[name].question, stream) else "need"


def _tell_paper(keepers, name, stream):
    """Return the text of a stream paper."""
    question = keepers[name].question
    return format_paper(question, stream, stream_paper(question, stream))


def _tell_spare(keepers, name):
    """Return the text of the spare rows of a keeper as a log."""
    keeper = keepers[name]
    return format_log(keeper.question, spare_rows(keeper.checkpoint()))


def _tell_part(keepers, name, other):
    """Return the text of a log that parts the states of two keepers."""
    keeper = keepers[name]
    log = parting_log(keeper.checkpoint(), keepers[other].checkpoint())
    return "alike" if log is None else format_log(keeper.question, log)


# What stands behind the first word of a command: the name of a keeper that is there or a new one, that of a stream,
# a number, or the rest of the line.
_FORMS = {
    "open": ("new", "text"), "copy": ("old", "new"), "join": ("old", "old", "new"), "close": ("old",),
    "put": ("old", "text"), "undo": ("old", "many"), "names": (), "question": ("old",), "held": ("old",),
    "would": ("old", "text"), "reason": ("old", "text"), "few": ("old", "stream"), "paper": ("old", "stream"),
    "spare": ("old",), "part": ("old", "old"),
}
_ACTIONS = {
    "open": _open_keeper, "copy": _copy_keeper, "join": _join_keepers, "close": _close_keeper,
    "put": _put_log, "undo": _undo_some, "names": _tell_names, "question": _tell_question, "held": _tell_held,
    "would": _tell_would, "reason": _tell_reason, "few": _tell_few, "paper": _tell_paper,
    "spare": _tell_spare, "part": _tell_part,
}
_LOGGED = ("open", "copy", "join", "close", "put", "undo")


def _words_of(line):
    """Return the list of the words of a command, the rest of the line as one, or raise an error."""
    first = line.partition(" ")[0] if isinstance(line, str) else ""
    if first not in _FORMS:
        raise InvalidCommand("not a command")
    form = _FORMS[first]
    words = line.split(" ", len(form)) if "text" in form else line.split(" ")
    if len(words) != 1 + len(form) or not all([_can_stand(part, word) for part, word in zip(form, words[1:])]):
        raise InvalidCommand("not of the form of a command")
    return words


def _can_stand(part, word):
    """Return whether a word can stand for a part of a command."""
    if part == "text":
        return word != ""
    if part != "many":
        return is_name(word)
    if not word.isascii() or not word.isdigit() or len(word) > MOST_DIGITS:
        return False
    return word == "0" or word[0] != "0"


class Shell:
    """Keepers under names."""

    def __init__(self):
        self._keepers = {}
        self._log = []

    @classmethod
    def of_log(cls, lines):
        """Return a new shell that has run the commands of a tuple."""
        made = Shell()
        made.run_all(lines)
        return made

    def run(self, line):
        """Run a command, and return its answer."""
        word, *parts = _words_of(line)
        self._check_names(_FORMS[word], parts)
        action = _ACTIONS[word]
        answer = action(self._keepers, *parts)
        if word in _LOGGED:
            self._log.append(line)
        return answer

    def _check_names(self, form, parts):
        """Raise an error unless keepers are there for the names that need one, and a new one can be put there."""
        pairs = list(zip(form, parts))
        for part, name in pairs:
            if part == "old" and name not in self._keepers:
                raise UnknownName(name)
        for part, name in pairs:
            if part == "new" and name in self._keepers:
                raise InvalidOperation("the name is taken")
        if "new" in form and len(self._keepers) >= MAX_KEEPERS:
            raise TooMany(MAX_KEEPERS)

    def run_all(self, lines):
        """Run the commands of a tuple, and return the tuple of their answers."""
        if not isinstance(lines, tuple):
            raise InvalidCommand("not a tuple of commands")
        return tuple([self.run(line) for line in lines])

    def tried(self, line):
        """Run a command, and return its answer, or the name of the class of the error that is raised."""
        try:
            return self.run(line)
        except (RowsError, InvalidNumber, UnknownName, TooMany, NothingToUndo) as error:
            name = type(error).__name__
            return f"! {name}"

    @property
    def names(self):
        """The ascending tuple of the names of the keepers."""
        return tuple(sorted(self._keepers))

    @property
    def log(self):
        """The tuple of the commands that changed something."""
        return tuple(self._log)

    def twin_of(self, name):
        """Return a twin of a keeper."""
        if name not in self:
            raise UnknownName(name)
        return self._keepers[name].twin()

    def __len__(self):
        return len(self._keepers)

    def __contains__(self, value):
        return isinstance(value, str) and value in self._keepers

    def __eq__(self, other):
        return isinstance(other, Shell) and self._keepers == other._keepers

    def __str__(self):
        return f"shell with {len(self._keepers)} keepers"
