"""What the tests of questions share: the questions of the document, an oracle, wrong values, and a check of errors.

The oracle does not use the package: it tries all rests with integers near those of some rows and the points.
"""
import itertools
import random

from needrows.ask.questions import Question
from needrows.base.numbers import Line
from needrows.base.reasoning import solutions
from needrows.errors import InvalidCondition, InvalidName, InvalidQuestion, InvalidRest, InvalidRow, UnknownName
from tests.helpers import FAR, VALUES, WRONG_CONDITIONS, columns_in, comparisons_in, is_whole, judge, random_condition

LESS = Question(("<", "x", "u"), left=("x",), right=("u",))
STAIRS = Question(("and", ("<", "x", "u"), ("<", "y", "v")), left=("x", "y"), right=("u", "v"))
WITHIN = Question(("and", ("<", "x", "u"), ("<", "u", "y")), pair=("x", "y"), probe=("u",))
UNLIKE = Question(("!=", "x", "u"), left=("x",), right=("u",))
UP, SIDE = ((), (), (("up", (("x",),)),)), ((), (), (("up", (("x",), ("y",))),))
NAMES = {"Question": Question, "LESS": LESS, "STAIRS": STAIRS, "WITHIN": WITHIN, "UNLIKE": UNLIKE, "UP": UP, "SIDE": SIDE}

# How many columns each stream has, the streams ascending.
SHAPES = ((1, 1), (2, 1), (1, 2), (2, 2), (1, 1, 1), (2, 1, 1), (1, 2, 1), (1, 1, 2), (1, 1, 1, 1))
STREAMS = ("names", "question", "self", "stream")

# Two columns beside two others, and one beside three, with comparisons of all kinds and four points.
WIDE = Question(
    ("or", ("and", ("<", "x", "u"), ("<=", "v", "y"), ("!=", "u", 0)),
     ("and", ("=", "u", "v"), ("<", "y", 3), ("not", ("<", "x", 0))),
     ("and", ("<", "u", "v"), ("<", "v", "x"))), left=("x", "y"), right=("u", "v"))
DEEP = Question(
    ("or", ("and", ("<", "x", "u"), ("<", "u", "v"), ("<", "v", "w")),
     ("and", ("=", "x", "v"), ("!=", "u", "w"), ("<", "u", 3)),
     ("and", ("<", "w", "x"), ("<", 0, "w"))), one=("x",), some=("v", "u"), two=("w",))


class Asked:
    """A question, and what the oracle knows of it."""

    def __init__(self, condition, streams):
        self.condition = condition
        self.streams = {stream: streams[stream] for stream in sorted(streams)}
        self.question = Question.of(condition, streams)
        self.columns = sorted(column for columns in streams.values() for column in columns)
        self.told = judge(condition, self.columns)
        written = [term for one in comparisons_in(condition) for term in one[1:] if is_whole(term)]
        self.points = tuple(range(min(written), max(written) + 1)) if written else ()
        self.told_beside = {stream: judge(condition, self.columns_from(stream)) for stream in self.streams}

    def columns_from(self, stream):
        """The columns of a stream, and then those of the others."""
        return [*self.streams[stream], *(column for other in self.others(stream) for column in self.streams[other])]

    def holds(self, rows):
        """Whether the condition holds with a dict from all streams to rows."""
        numbers = {column: number for stream in rows for column, number in zip(self.streams[stream], rows[stream])}
        return self.told(*(numbers[column] for column in self.columns))

    def rings(self, stream, row, rest):
        return self.told_beside[stream](*row, *flat(rest))

    def others(self, stream):
        return [other for other in self.streams if other != stream]

    def many_of_rest(self, stream):
        return sum(len(self.streams[other]) for other in self.others(stream))

    def numbers_near(self, stream, rows):
        """All integers that lie near one of the rows or points: enough for each order."""
        many = self.many_of_rest(stream)
        given = {number for row in rows for number in row}.union(self.points) or {0}
        return sorted({number + step for number in given for step in range(-many, many + 1)})

    def rest_of(self, stream, numbers):
        left = list(numbers)
        return {other: tuple(left.pop(0) for _ in self.streams[other]) for other in self.others(stream)}

    def rests(self, stream, rows):
        """All rests with integers near the rows and the points."""
        near = self.numbers_near(stream, rows)
        return [self.rest_of(stream, one) for one in itertools.product(near, repeat=self.many_of_rest(stream))]

    def regions(self, stream, rows):
        """For each row the set of the indices of those of the rests near all rows with which it rings."""
        told = self.told_beside[stream]
        near = self.numbers_near(stream, rows)
        rests = list(itertools.product(near, repeat=self.many_of_rest(stream)))
        return {row: {at for at, rest in enumerate(rests) if told(*row, *rest)} for row in rows}

    def random_row(self, source, stream, low=-2, high=6):
        return tuple(source.randrange(low, high) for _ in self.streams[stream])

    def random_rows(self, source, stream, many, low=-2, high=6):
        return tuple(self.random_row(source, stream, low, high) for _ in range(many))


def flat(rest):
    """The integers of a rest in the order of the streams and their columns."""
    return tuple(number for stream in sorted(rest) for number in rest[stream])


def random_asked(source, shape, deep=3, points=(0, 1, 2, 3)):
    """A question of this shape, its columns and streams called otherwise each time."""
    columns = list("abcd"[:sum(shape)])
    source.shuffle(columns)
    streams = {}
    for name, many in zip(sorted(source.sample(STREAMS, len(shape))), shape):
        streams[name] = tuple(columns.pop() for _ in range(many))
    every = [column for columns in streams.values() for column in columns]
    condition = random_condition(source, every, deep, points)
    while len(columns_in(condition)) < 2 and source.randrange(4):
        condition = random_condition(source, every, deep, points)
    return Asked(condition, streams)


def many_asked(seed, many, shapes=SHAPES, deep=3):
    """The same questions at each call: of all shapes, with no, few and all points."""
    source = random.Random(seed)
    found = []
    for at in range(many):
        points = ((), (0, 1, 2, 3), (1,), (), (0, 3), (2, 3))[at % 6]
        found.append(random_asked(source, shapes[at % len(shapes)], deep, points))
    return found


RETURNED = (Line(1), LESS, STAIRS, solutions(("<", "x", "u")), UP, {"right": (2,)}, (("left", (3,)), ("right", (2,))))
EVERY = (*VALUES, *RETURNED)
NO_QUESTIONS = tuple(value for value in EVERY if not isinstance(value, Question)) + (
    ("<", "x", "u"), {"left": ("x",)}, Question)
NO_NAMES = tuple(value for value in EVERY if not (type(value) is str and value in ("x", "and", "always")))


def no_streams(question):
    """Values that are no streams of a question."""
    return tuple(value for value in EVERY if not (type(value) is str and value in question.streams)) + (
        "Left", "left ", "lef", ("left",), ["left"])


def no_rows(many):
    """Values that are no rows of a stream with one or two columns."""
    short = ((), (1,), (1, 2), (1, 2, 3))
    return tuple(value for value in (*EVERY, *short) if not fits(value, many)) + (
        (True,) * many, (None,) * many, ("1",) * many, [1] * many, ((1,),) * many, (1, False)[-many:], {0: 1})


def fits(value, many):
    return type(value) is tuple and len(value) == many and all(map(is_whole, value))


def no_tuples_of_rows(many):
    """Values that are no tuples of rows of a stream with one or two columns."""
    row = (1, 2)[:many]
    found = [value for value in EVERY if not (type(value) is tuple and all(fits(one, many) for one in value))]
    return (*found, [row], {row: True}, row, (row, [1, 2][:many])) + tuple(
        tuple(part) for value in no_rows(many) for part in ((value,), (row, value), (value, row)))


def no_rests(question, stream):
    """Values that are no rests of a stream."""
    right = {other: (5,) * len(question.columns_of(other)) for other in question.others(stream)}
    first = min(right)
    found = [value for value in EVERY if not (type(value) is dict and list(value) == list(right))]
    found += [{}, tuple(right.items()), {**right, stream: (1,) * len(question.columns_of(stream))}, {**right, "zz": (1,)}]
    found += [{other: right[other] for other in right if other != first}, {**right, None: (1,)}, [right], (right,)]
    found += [{**right, first: value} for value in no_rows(len(right[first]))]
    return tuple(found)


def expect(case, call, arguments, keywords, late, kind, attribute, value):
    """Check that a call raises an error; a generator does it when its first result is asked for."""
    if late:
        begun = call(*arguments, **keywords)
        with case.assertRaises(kind, msg=value) as caught:
            next(begun)
    else:
        with case.assertRaises(kind, msg=value) as caught:
            call(*arguments, **keywords)
    case.assertIs(type(caught.exception), kind)
    if attribute:
        case.assertEqual(getattr(caught.exception, attribute), value)
        case.assertIs(type(getattr(caught.exception, attribute)), type(value))


def check_wrong(case, call, right, wrong, late=False, names=()):
    """Check the errors of a call for wrong arguments, each alone and two at once: the first one counts.

    `right` has the right arguments, those behind the others under `names`; `wrong` tells for each of them a triple:
    the wrong values, the error, and the attribute that keeps the value.
    """
    def arranged(values):
        plain = len(values) - len(names)
        return values[:plain], dict(zip(names, values[plain:]))

    for at, one in enumerate(wrong):
        if one is None:
            continue
        values, kind, attribute = one
        for value in values:
            changed = [*right[:at], value, *right[at + 1:]]
            expect(case, call, *arranged(changed), late, kind, attribute, value)
        for later in range(at + 1, len(wrong)):
            if wrong[later] is None:
                continue
            for value, other in itertools.product(values[-3:], wrong[later][0][-3:]):
                changed = [*right[:at], value, *right[at + 1:later], other, *right[later + 1:]]
                expect(case, call, *arranged(changed), late, kind, attribute, value)


def wrong_start(question):
    """What is wrong for the parameters `question` and `stream`."""
    return [(NO_QUESTIONS, InvalidQuestion, None), (no_streams(question), UnknownName, "name")]


def wrong_row(question, stream):
    return (no_rows(len(question.columns_of(stream))), InvalidRow, None)


def wrong_rows(question, stream):
    return (no_tuples_of_rows(len(question.columns_of(stream))), InvalidRow, None)


def wrong_rest(question, stream):
    return (no_rests(question, stream), InvalidRest, None)


WRONG_CONDITION = (WRONG_CONDITIONS, InvalidCondition, None)
WRONG_NAME = (NO_NAMES, InvalidName, None)
FAR_ROWS = (FAR, -FAR)
