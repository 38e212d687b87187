"""The texts of values, and the values of texts.

A text is read in a generous way; then the value has to be right, and its text to be the very text that was read.
"""
from needrows.ask.logs import check_log, check_rest, entries_in, is_log, is_rest
from needrows.ask.questions import Question, check_question, check_stream
from needrows.base.conditions import check_condition, is_condition
from needrows.errors import InvalidCondition, InvalidName, InvalidOperation, InvalidQuestion, InvalidState, ParseError
from needrows.few.forget import has_rule_form
from needrows.few.papers import has_few_form
from needrows.keep.states import State, check_state
from needrows.rises.kinds import STAY_WORD, check_kind, groups_of, is_kind
from needrows.text.reader import Reader, integer_of

NOTHING = "-"


def format_condition(condition):
    """Return the text of a condition."""
    check_condition(condition)
    return _condition_text(condition)


def _condition_text(condition):
    """Return the text of a checked condition."""
    word = condition[0]
    if word == "not":
        return f"!({_condition_text(condition[1])})"
    if word == "and":
        return " & ".join([_inner_text(one) for one in condition[1:]])
    if word == "or":
        return " | ".join([_inner_text(one) for one in condition[1:]])
    if len(condition) == 1:
        return word
    return f"{condition[1]} {word} {condition[2]}"


def _inner_text(condition):
    """Return the text of a condition in an "and" or "or"."""
    text = _condition_text(condition)
    return f"({text})" if condition[0] in ("and", "or") else text


def parse_condition(text):
    """Return the condition with this text."""
    _check_text(text)
    condition = Reader(text).read_condition()
    if not is_condition(condition):
        raise ParseError("not a condition")
    return _same(condition, _condition_text(condition), text)


def _check_text(text):
    """Raise an error unless a value is a text."""
    if not isinstance(text, str):
        raise ParseError("not a text")


def _same(value, its_text, text):
    """Return a value that was read from a text, or raise an error if it has another one."""
    if its_text != text:
        raise ParseError("the text of the value is another one")
    return value


def format_question(question):
    """Return the text of a question."""
    check_question(question)
    return _question_text(question)


def _question_text(question):
    """Return the text of a question that is one."""
    parts = [" ".join((stream, *question.columns_of(stream))) for stream in question.streams]
    return "; ".join([*parts, _condition_text(question.condition)])


def parse_question(text):
    """Return the question with this text."""
    _check_text(text)
    *parts, last = text.split("; ")
    streams = {}
    for part in parts:
        stream, *columns = part.split(" ")
        streams[stream] = tuple(columns)
    try:
        question = Question.of(Reader(last).read_condition(), streams)
    except (InvalidCondition, InvalidName, InvalidQuestion):
        raise ParseError("not a question")
    return _same(question, _question_text(question), text)


def format_log(question, log):
    """Return the text of a log."""
    check_log(question, log)
    return _log_text(log)


def _log_text(log):
    """Return the text of a checked log."""
    return ", ".join([f"{stream} {_row_text(row)}" for stream, row in log]) if log else NOTHING


def _row_text(row):
    """Return the text of the integers of a row."""
    return " ".join([str(number) for number in row])


def parse_log(question, text):
    """Return the log with this text."""
    check_question(question)
    _check_text(text)
    log = _read_log(text)
    if not is_log(question, log):
        raise ParseError("not a log")
    return _same(log, _log_text(log), text)


def _read_log(text):
    """Return the tuple of the pairs of a stream and a tuple of integers in a text."""
    if text == NOTHING:
        return ()
    found = []
    for part in text.split(", "):
        stream, *words = part.split(" ")
        found.append((stream, _read_row(words)))
    return tuple(found)


def _read_row(words):
    """Return the tuple of the integers that some words are."""
    return tuple([integer_of(word) for word in words])


def format_rest(question, stream, rest):
    """Return the text of a rest."""
    check_stream(question, stream)
    check_rest(question, stream, rest)
    return _rest_text(question, stream, rest)


def _rest_text(question, stream, rest):
    """Return the text of a checked rest."""
    return _log_text(entries_in(question, stream, rest))


def parse_rest(question, stream, text):
    """Return the rest with this text."""
    check_stream(question, stream)
    _check_text(text)
    rest = dict(_read_log(text))
    if not is_rest(question, stream, rest):
        raise ParseError("not a rest")
    return _same(rest, _rest_text(question, stream, rest), text)


def format_kind(question, stream, kind):
    """Return the text of a kind."""
    check_kind(question, stream, kind)
    return _kind_text(kind)


def _kind_text(kind):
    """Return the text of a checked kind."""
    below, at, above = kind
    return " / ".join([_items_text(below), _pairs_text(at), _items_text(above)])


def _items_text(items):
    """Return the text of a tuple of items."""
    return ", ".join([f"{item[0]} {_groups_text(groups_of(item))}" for item in items]) if items else NOTHING


def _groups_text(groups):
    """Return the text of some groups of columns."""
    return " < ".join([" = ".join(group) for group in groups])


def _pairs_text(pairs):
    """Return the text of a tuple of pairs of a column and a point."""
    return ", ".join([f"{column} = {point}" for column, point in pairs]) if pairs else NOTHING


def parse_kind(question, stream, text):
    """Return the kind with this text."""
    check_stream(question, stream)
    _check_text(text)
    kind = _read_kind(text)
    if not is_kind(question, stream, kind):
        raise ParseError("not a kind")
    return _same(kind, _kind_text(kind), text)


def _read_kind(text):
    """Return the triple of the parts of a kind in a text."""
    parts = text.split(" / ")
    if len(parts) != 3:
        raise ParseError("not three parts")
    below, at, above = parts
    return _read_items(below), _read_pairs(at), _read_items(above)


def _read_items(text):
    """Return the tuple of the items in a text."""
    if text == NOTHING:
        return ()
    return tuple([_read_item(part) for part in text.split(", ")])


def _read_item(text):
    """Return the item in a text."""
    word, _, rest = text.partition(" ")
    groups = tuple([tuple(group.split(" = ")) for group in rest.split(" < ")])
    return (word, groups[0]) if word == STAY_WORD else (word, groups)


def _read_pairs(text):
    """Return the tuple of the pairs of a column and an integer in a text."""
    if text == NOTHING:
        return ()
    found = []
    for part in text.split(", "):
        column, _, number = part.partition(" = ")
        found.append((column, integer_of(number)))
    return tuple(found)


def format_paper(question, stream, value):
    """Return the text of a value that has the form of a stream paper, right or not."""
    check_stream(question, stream)
    if not _has_form(question, stream, value):
        raise InvalidOperation("not of the form of a stream paper")
    return _paper_text(question, stream, value)


def _has_form(question, stream, value):
    """Return whether a value has the form of a stream paper."""
    if has_few_form(question, stream, value):
        return True
    if not isinstance(value, tuple) or len(value) != 3 or value[0] != "need":
        return False
    return is_kind(question, stream, value[1]) and is_rest(question, stream, value[2])


def _paper_text(question, stream, paper):
    """Return the text of a value with the form of a stream paper."""
    if paper[0] == "few":
        return "\n".join(["few", *[_rule_text(rule) for rule in paper[1]]])
    return "\n".join([f"need {_kind_text(paper[1])}", f"rest {_rest_text(question, stream, paper[2])}"])


def _rule_text(rule):
    """Return the line of a rule."""
    _, kind, front, behind = rule
    return f"{front} {behind}: {_kind_text(kind)}"


def parse_paper(question, stream, text):
    """Return the value with this text that has the form of a stream paper."""
    check_stream(question, stream)
    _check_text(text)
    first, *lines = text.split("\n")
    if first == "few":
        paper = ("few", tuple([_read_rule(line) for line in lines]))
    elif first.startswith("need ") and len(lines) == 1 and lines[0].startswith("rest "):
        paper = ("need", _read_kind(first[len("need "):]), dict(_read_log(lines[0][len("rest "):])))
    else:
        raise ParseError("neither rules nor a need")
    if not _has_form(question, stream, paper):
        raise ParseError("not of the form of a stream paper")
    return _same(paper, _paper_text(question, stream, paper), text)


def _read_rule(line):
    """Return the rule in a line."""
    numbers, _, kind = line.partition(": ")
    front, _, behind = numbers.partition(" ")
    return ("rule", _read_kind(kind), integer_of(front), integer_of(behind))


def format_state(state):
    """Return the text of a state."""
    check_state(state)
    rows = state.rows
    return "; ".join([f"{stream}: {_rows_text(rows[stream])}" for stream in rows])


def _rows_text(rows):
    """Return the text of a tuple of rows."""
    return ", ".join([_row_text(row) for row in rows]) if rows else NOTHING


def parse_state(question, text):
    """Return the state with this text."""
    check_question(question)
    _check_text(text)
    rows = {}
    for part in text.split("; "):
        stream, _, held = part.partition(": ")
        rows[stream] = () if held == NOTHING else tuple([_read_row(row.split(" ")) for row in held.split(", ")])
    try:
        state = State.of(question, rows)
    except InvalidState:
        raise ParseError("not a state")
    return _same(state, format_state(state), text)
