"""Papers that show which streams need few of their rows, and which need arbitrarily many."""
from needrows.ask.questions import check_question, check_stream
from needrows.cover.rests import Rests
from needrows.few.forget import has_rule_form, is_covered_at, most_beside
from needrows.few.needs import any_need, is_need
from needrows.few.threes import Threes
from needrows.rises.kinds import all_kinds
from needrows.rises.standard import standard_rows


def is_few(question, stream):
    """Return whether the papers of the stream are "few"."""
    return any_need(question, stream) is None


def kinds_with_needs(question, stream):
    """Yield the kinds of the stream that have a need, ascending."""
    check_stream(question, stream)
    threes = Threes(question, stream)
    for kind in threes.every_kind():
        if threes.needing(kind):
            yield kind


def needy_streams(question):
    """Return the ascending tuple of the streams whose papers are needs."""
    check_question(question)
    return tuple([stream for stream in question.streams if not is_few(question, stream)])


def stream_paper(question, stream):
    """Return any stream paper."""
    need = any_need(question, stream)
    if need is not None:
        return need
    # Of so many rows on one side a rest is clear of at least one: so without needs each kind has this rule.
    most = most_beside(question, stream)
    return ("few", tuple([("rule", kind, most, most) for kind in all_kinds(question, stream)]))


def is_stream_paper(question, stream, value):
    """Return whether the value is a stream paper."""
    if is_need(question, stream, value):
        return True
    return has_few_form(question, stream, value) and _are_rules(question, stream, value[1])


def has_few_form(question, stream, value):
    """Return whether a value has the form of a "few" paper: one rule for each kind in order, these right or not."""
    if not isinstance(value, tuple) or len(value) != 2 or value[0] != "few" or not isinstance(value[1], tuple):
        return False
    if not all([has_rule_form(question, stream, rule) for rule in value[1]]):
        return False
    return [rule[1] for rule in value[1]] == all_kinds(question, stream)


def _are_rules(question, stream, rules):
    """Return whether all of some values with the form of rules are rules of the stream."""
    rises = [standard_rows(question, stream, kind, front + 1 + behind) for _, kind, front, behind in rules]
    if len(question.columns_of(stream)) > 1:
        # The rises of all kinds have their numbers on the same steps, so one set of rests does for these many kinds.
        every = Rests(question, stream, [row for rise in rises for row in rise])
        return all([is_covered_at(every, rise, rule[2]) for rule, rise in zip(rules, rises)])
    return all([is_covered_at(Rests(question, stream, rise), rise, rule[2]) for rule, rise in zip(rules, rises)])


def question_paper(question):
    """Return any question paper."""
    check_question(question)
    return {stream: stream_paper(question, stream) for stream in question.streams}


def is_question_paper(question, value):
    """Return whether the value is a question paper."""
    check_question(question)
    if not isinstance(value, dict) or len(value) != len(question.streams):
        return False
    for stream in value:
        if stream not in question or not is_stream_paper(question, stream, value[stream]):
            return False
    return True
