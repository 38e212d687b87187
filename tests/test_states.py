"""[0.16], [14.1] to [14.4] and what the document says of needrows.keep.states."""
import itertools
import random
import unittest

from needrows.ask.logs import rings, rows_of
from needrows.ask.questions import Question
from needrows.cover.regions import is_covered, reason
from needrows.cover.tight import is_tight
from needrows.errors import (
    InvalidLog, InvalidMark, InvalidOperation, InvalidQuestion, InvalidRow, InvalidState, TooMany, UnknownName)
from needrows.keep.states import (
    MAX_ROWS, State, are_alike, is_lean, is_mark, is_parting_log, lean, obeys, parting_log, spare_rows)
from tests.asked import (
    DEEP, EVERY, LESS, NO_QUESTIONS, SHAPES, STAIRS, UNLIKE, WIDE, WITHIN, check_wrong, expect, many_asked, no_rows,
    no_streams, no_tuples_of_rows)
from tests.helpers import FAR

SMALL = ((1, 1), (2, 1), (1, 2), (1, 1, 1), (2, 2), (1, 2, 1), (1, 1, 1, 1))
LOW, WIDER = State(LESS, left=((3,),)), State(LESS, left=((5,), (3,)))
NO_STATES = tuple(EVERY) + (State, {"left": ((3,),)}, (("left", (3,)),))
WRONG_STATE = (NO_STATES, InvalidState, None)


class Held:
    """States of a question, and what the oracle knows of them: all logs with integers near rows, points and marks."""

    def __init__(self, asked, states, marks):
        self.asked = asked
        self.tables = [state.rows for state in states]
        self.marks = marks
        most = max(asked.many_of_rest(stream) for stream in asked.streams)
        given = {number for table in self.tables for rows in table.values() for row in rows for number in row}
        given |= {*asked.points, *(mark[3] for mark in marks if mark[0] == "from")} or {0}
        self.near = sorted({number + step for number in given for step in range(-most, most + 1)})

    def logs(self):
        """All logs that obey the marks with at most one entry of each stream and fewer than there are streams."""
        streams = sorted(self.asked.streams)
        for many in range(len(streams)):
            for some in itertools.combinations(streams, many):
                choices = [[row for row in self.rows(stream) if self.obeys(stream, row)] for stream in some]
                for rows in itertools.product(*choices):
                    yield tuple(zip(some, rows))

    def rows(self, stream):
        return itertools.product(self.near, repeat=len(self.asked.streams[stream]))

    def obeys(self, stream, row):
        for mark in self.marks:
            if mark[1] == stream:
                if mark[0] == "shut" or row[self.asked.streams[stream].index(mark[2])] < mark[3]:
                    return False
        return True

    def rings(self, table, log):
        """Whether a log rings behind the rows of a dict."""
        picks = [[*table[stream], *(row for name, row in log if name == stream)] for stream in self.asked.streams]
        told = self.asked.holds
        return any(told(dict(zip(self.asked.streams, rows))) for rows in itertools.product(*picks))

    def parted(self, one, other):
        """Whether some log parts the rows of two dicts."""
        return one != other and any(self.rings(one, log) != self.rings(other, log) for log in self.logs())


def random_state(source, asked, many, low=-1, high=5):
    rows = {}
    for _ in range(many):
        stream = source.choice(sorted(asked.streams))
        rows[stream] = rows.get(stream, ()) + (asked.random_row(source, stream, low, high),)
    return State.of(asked.question, rows)


def random_marks(source, asked):
    found = []
    for stream in asked.streams:
        for column in asked.streams[stream]:
            if source.randrange(3) == 0:
                found.append(("from", stream, column, source.randrange(-3, 6)))
        if source.randrange(6) == 0:
            found.append(("shut", stream))
    source.shuffle(found)
    return tuple(found)


def scenes(seed, many, most_rows, shapes=SMALL):
    """Questions, each with two states that ring by themselves only sometimes, and marks."""
    source = random.Random(seed)
    for at, asked in enumerate(many_asked(seed + 1, many, shapes, 4)):
        for _ in range(9):
            one, other = (random_state(source, asked, source.randrange(most_rows + 1)) for _ in range(2))
            if source.randrange(3):
                other = one.with_log(tuple((stream, row) for stream in other.rows for row in other.held(stream))[:2])
            if len(one) + len(other) <= 6 and not (one.rings() and other.rings()):
                break
        else:
            continue
        yield asked, one, other, random_marks(source, asked) if at % 2 else ()


class Alike(unittest.TestCase):
    def test_against_definition(self):
        told = []
        for asked, one, other, marks in scenes(301, 140, 3):
            held = Held(asked, (one, other), marks)
            right = not held.parted(one.rows, other.rows)
            told.append(right)
            self.assertIs(are_alike(one, other, marks=marks), right, (asked.condition, one.rows, other.rows, marks))
            found = parting_log(one, other, marks=marks)
            if right:
                self.assertIsNone(found)
                self.assertIs(is_parting_log(one, other, (), marks=marks), False)
            else:
                self.assertLess(len(found), len(asked.streams))
                self.assertEqual(len({stream for stream, _ in found}), len(found))
                self.assertTrue(all(held.obeys(stream, row) for stream, row in found))
                self.assertNotEqual(held.rings(one.rows, found), held.rings(other.rows, found))
                self.assertIs(is_parting_log(one, other, found, marks=marks), True)
                self.assertIs(is_parting_log(other, one, found[::-1], marks=marks), True)
        self.assertGreater(min(told.count(True), told.count(False)), 20)

    def test_four_streams(self):
        source = random.Random(303)
        for asked in many_asked(304, 10, ((1, 1, 1, 1),), 4):
            one, other = random_state(source, asked, 2, 0, 3), random_state(source, asked, 2, 0, 3)
            held = Held(asked, (one, other), ())
            self.assertIs(are_alike(one, other), not held.parted(one.rows, other.rows))

    def test_is_parting_log(self):
        for asked, one, other, marks in scenes(305, 42, 3, ((1, 1), (2, 1), (1, 1, 1))):
            held = Held(asked, (one, other), marks)
            parting = [log for log in held.logs() if held.rings(one.rows, log) != held.rings(other.rows, log)]
            every = list(itertools.islice(held.logs(), 0, None, 7))
            for log in (*every, *parting[::5]):
                self.assertIs(is_parting_log(one, other, log, marks=marks), log in parting)
                self.assertIs(is_parting_log(one, other, list(log), marks=marks), False)
            for log in parting[::9]:
                for entry in log:
                    self.assertIs(is_parting_log(one, other, (*log, entry), marks=marks), False)
                    shut = (*marks, ("shut", entry[0]))
                    self.assertIs(is_parting_log(one, other, log, marks=shut), False)

    def test_logs_that_are_too_long(self):
        """An entry of each stream is one too many, though the states ring unlike behind it."""
        high = WIDER.without("left", (3,))
        self.assertIs(is_parting_log(LOW, high, (("right", (4,)),)), True)
        self.assertIs(is_parting_log(LOW, high, (("right", (4,)), ("left", (9,)))), False)
        self.assertIs(is_parting_log(LOW, high, (("right", (4,)), ("right", (4,)))), False)
        for value in (*EVERY, [("right", (4,))], (("right", (4,), 1),), (("right", (True,)),), (("zz", (4,)),), {"right": (4,)}):
            self.assertIs(is_parting_log(LOW, high, value), False, value)
        # More than six rows can be judged, too.
        many = State(LESS, left=tuple((number,) for number in range(3, 30)))
        self.assertIs(is_parting_log(many, high, (("right", (4,)),)), True)
        self.assertIs(is_parting_log(many, LOW, (("right", (4,)),)), False)

    def test_all_that_ring_are_alike(self):
        ringing = [State(LESS, left=((1,),), right=((5,),)), State(LESS, left=((1,), (7,)), right=((2,),))]
        for one, other in itertools.product(ringing, repeat=2):
            self.assertIs(are_alike(one, other), True)
        self.assertEqual(parting_log(ringing[0], LOW), ())
        self.assertIs(is_parting_log(ringing[0], LOW, ()), True)
        always = State(LESS.with_condition(("always",)), left=((1,),), right=((1,),))
        self.assertEqual(lean(always).rows, {"left": ((1,),), "right": ((1,),)})

    def test_without_rows(self):
        empty = State(LESS)
        self.assertIs(are_alike(empty, State(LESS)), True)
        self.assertEqual([spare_rows(empty), lean(empty), is_lean(empty)], [(), empty, True])
        self.assertIs(are_alike(empty, LOW), False)
        self.assertIs(is_parting_log(empty, LOW, parting_log(empty, LOW)), True)
        never = LESS.with_condition(("never",))
        self.assertIs(are_alike(State(never), State(never, left=((1,),))), True)
        self.assertEqual(lean(State(never, left=((1,),), right=((2,),))), State(never))

    def test_far_numbers(self):
        one, other = State(LESS, left=((FAR,),)), State(LESS, left=((FAR - 1,),))
        self.assertEqual(parting_log(one, other), (("right", (FAR,)),))
        for number, right in ((FAR, False), (FAR + 1, True)):
            self.assertIs(are_alike(one, other, marks=(("from", "right", "u", number),)), right)

    def test_marks(self):
        high = State(LESS, left=((5,),))
        for number in range(0, 9):
            marks = (("from", "right", "u", number),)
            self.assertIs(are_alike(LOW, high, marks=marks), number > 5)
            if number <= 5:
                (stream, row), = parting_log(LOW, high, marks=marks)
                self.assertTrue(stream == "right" and max(4, number) <= row[0] <= 5)
            twice = (("from", "right", "u", number), ("from", "right", "u", 2), ("from", "left", "x", 0))
            self.assertIs(are_alike(LOW, high, marks=twice), number > 5)
        nothing = (("from", "right", "u", -FAR), ("from", "left", "x", -FAR))
        self.assertIs(are_alike(LOW, high, marks=nothing), False)
        self.assertIs(are_alike(LOW, high, marks=(("from", "right", "u", FAR),)), True)
        self.assertIs(are_alike(LOW, high, marks=(("shut", "right"),)), True)
        self.assertIs(are_alike(LOW, high, marks=(("shut", "left"),)), False)
        self.assertIs(are_alike(LOW, State(LESS), marks=(("shut", "left"), ("shut", "right"))), True)
        ringing = LOW | State(LESS, right=((9,),))
        self.assertIs(are_alike(LOW, ringing, marks=(("shut", "left"), ("shut", "right"))), False)

    def test_what_stays_alike(self):
        """[14.3]: alike states stay so under more marks, behind a log, and joined with a third state."""
        source = random.Random(306)
        done = 0
        for asked, one, _, _ in scenes(307, 160, 4, SHAPES):
            other = lean(one)
            if one == other or len(one) + len(other) > 4:
                continue
            done += 1
            marks = random_marks(source, asked)
            self.assertIs(are_alike(one, other), True)
            self.assertIs(are_alike(one, other, marks=marks), True)
            stream = source.choice(sorted(asked.streams))
            log = ((stream, asked.random_row(source, stream)),)
            self.assertIs(are_alike(one.with_log(log), other.with_log(log)), True)
            third = State.of(asked.question, {stream: (asked.random_row(source, stream),)})
            self.assertIs(are_alike(one | third, other | third), True)
            under = lean(one, marks=marks)
            if all(Held(asked, (), marks).obeys(stream, row) for stream, row in log):
                self.assertIs(are_alike(one.with_log(log), under.with_log(log), marks=marks), True)
        self.assertGreater(done, 15)


class Spare(unittest.TestCase):
    def test_against_definition(self):
        seen = 0
        for asked, one, _, marks in scenes(308, 90, 5, ((1, 1), (2, 1), (1, 2), (1, 1, 1), (2, 2))):
            held = Held(asked, (one,), marks)
            entries = [(stream, row) for stream in one.rows for row in one.held(stream)]
            right = [entry for entry in entries if not held.parted(one.rows, one.without(*entry).rows)]
            seen += len(right)
            self.assertEqual(spare_rows(one, marks=marks), tuple(right), (asked.condition, one.rows, marks))
            self.assertIs(is_lean(one, marks=marks), not right)
            left = one
            for entry in entries:
                if not held.parted(left.rows, left.without(*entry).rows):
                    left = left.without(*entry)
            self.assertEqual(lean(one, marks=marks), left)
            self.assertIs(is_lean(left, marks=marks), True)
            self.assertIs(are_alike(one, left, marks=marks) if len(one) + len(left) <= 6 else True, True)
        self.assertGreater(seen, 60)

    def test_covered_rows_are_spare(self):
        """[14.4]: covered rows are spare, others can be; the rows of a lean state are tight."""
        for asked, one, _, _ in scenes(309, 120, 6, SHAPES):
            spare = spare_rows(one)
            for stream in one.rows:
                for row in one.held(stream):
                    others = tuple(other for other in one.held(stream) if other != row)
                    if is_covered(asked.question, stream, row, by=others):
                        self.assertIn((stream, row), spare)
            left = lean(one)
            for stream in left.rows:
                self.assertIs(is_tight(asked.question, stream, left.held(stream)), True)

    def test_a_row_with_a_reason_can_be_spare(self):
        """[0.17]: the row rings only with rows for which the state rings anyway."""
        question = Question(("and", ("<", "a", "b"), ("<=", "c", "c")), p=("a",), q=("b",), r=("c",))
        state = State(question, p=((1,),), q=((5,), (9,)))
        self.assertIsNotNone(reason(question, "q", (9,), beside=((5,),)))
        self.assertEqual(spare_rows(state), (("q", (5,)), ("q", (9,))))
        self.assertEqual(lean(state).rows["q"], ((9,),))
        one = State(Question(("and", ("<", "a", "b"), ("<", "b", "c")), p=("a",), q=("b",), r=("c",)), p=((4,),), q=((2,), (6,)))
        self.assertIsNotNone(reason(one.question, "q", (2,), beside=((6,),)))
        self.assertNotIn(("q", (2,)), spare_rows(one))
        closed = (("shut", "p"),)
        self.assertIn(("q", (2,)), spare_rows(one, marks=closed))
        self.assertEqual(lean(one, marks=closed).rows, {"p": ((4,),), "q": ((6,),), "r": ()})

    def test_alike_states_with_other_numbers_of_rows(self):
        """[0.17]: tight parts of the same rows, of which one has more rows than the other one."""
        pieces = ((0, 6), (0, 10), (4, 10))
        one, other = State(WITHIN, pair=(pieces[1],)), State(WITHIN, pair=pieces[::2])
        self.assertEqual([is_lean(one), is_lean(other), are_alike(one, other)], [True, True, True])
        self.assertEqual([len(one), len(other), lean(State(WITHIN, pair=pieces))], [1, 2, one])

    def test_lean_in_order(self):
        state = State(UNLIKE, left=((1,), (2,), (3,)), right=())
        self.assertEqual(spare_rows(state), tuple(("left", (number,)) for number in (1, 2, 3)))
        self.assertEqual(lean(state).rows["left"], ((2,), (3,)))
        # If only rights from 3 on come, 2 rings with all of them: so 1 is left out, and then 3.
        self.assertEqual(lean(state, marks=(("from", "right", "u", 3),)).rows["left"], ((2,),))


class States(unittest.TestCase):
    def test_held_and_rings(self):
        source = random.Random(310)
        for asked in many_asked(311, 60):
            state = random_state(source, asked, source.randrange(7))
            log = tuple((stream, row) for stream in state.rows for row in state.held(stream))
            self.assertEqual(list(state.rows), sorted(asked.streams))
            self.assertEqual(len(state), len(log))
            self.assertIs(state.rings(), rings(asked.question, log))
            more = tuple(
                (stream, asked.random_row(source, stream)) for stream in source.choices(sorted(asked.streams), k=source.randrange(4)))
            self.assertIs(state.rings(more), rings(asked.question, log + more))
            both = state.with_log(more)
            for stream in asked.streams:
                self.assertEqual(both.held(stream), rows_of(asked.question, stream, log + more))
            self.assertEqual(state | State.of(asked.question, {}).with_log(more), both)
            self.assertEqual(both | state, both)
            for stream, row in log:
                self.assertIn((stream, row), state)
                less = state.without(stream, row)
                self.assertNotIn((stream, row), less)
                self.assertEqual([len(less), less.with_log(((stream, row),)) == state], [len(state) - 1, True])

    def test_made(self):
        self.assertEqual(State(LESS, left=((5,), (3,), (5,))).rows, {"left": ((3,), (5,)), "right": ()})
        self.assertEqual(list(State.of(LESS, {"right": ((1,),), "left": ((3,),)}).rows), ["left", "right"])
        self.assertEqual([bool(State(LESS)), bool(LOW), len(WIDER)], [False, True, 2])
        question = Question.of(("<", "x", "u"), {"self": ("x",), "question": ("u",)})
        state = State.of(question, {"self": ((2,), (1,)), "question": ((0,),)})
        self.assertEqual(state.rows, {"question": ((0,),), "self": ((1,), (2,))})
        self.assertEqual(spare_rows(state), (("self", (2,)),))
        self.assertEqual([state.without("self", (2,)) == lean(state), state | state == state], [True, True])

    def test_state_is_its_own(self):
        rows = {"left": ((3,),)}
        state = State.of(LESS, rows)
        rows["left"] = ()
        rows["right"] = ((9,),)
        state.rows.clear()
        state.rows["left"] = ()
        self.assertEqual(state.rows, {"left": ((3,),), "right": ()})
        before = state.rows
        state.with_log((("right", (9,)),)), state.without("left", (3,)), state | WIDER
        self.assertEqual(state.rows, before)

    def test_equal_in_and_text(self):
        self.assertEqual(LOW, State.of(LESS, {"left": ((3,),), "right": ()}))
        turned = Question(("<", "x", "u"), left=("u",), right=("x",))
        for value in (*EVERY, WIDER, State(LESS), State(turned, left=((3,),)), State(UNLIKE, left=((3,),)), LOW.rows):
            self.assertFalse(LOW == value)
            self.assertTrue(LOW != value)
        for value in (*EVERY, ("left", (5,)), ("right", (3,)), ("left", [3]), ("left", (3, 3)), ["left", (3,)], ("left", (3,), 1)):
            self.assertNotIn(value, LOW)
        self.assertIn(("left", (3,)), LOW)
        one = State(LESS, left=((1,),))
        self.assertNotIn(("left", (True,)), one)
        self.assertEqual([str(LOW), str(WIDER), str(State(LESS))], ["state with 1 rows", "state with 2 rows", "state with 0 rows"])

    def test_many_rows(self):
        rows = tuple((number,) for number in range(500))
        state = State(LESS, left=rows)
        self.assertEqual([len(state), state.rings((("right", (1,)),)), state.rings((("right", (0,)),))], [500, True, False])
        self.assertEqual(len(state | State(LESS, left=((-1,),), right=rows)), 1001)


class Marks(unittest.TestCase):
    RIGHT = (("shut", "left"), ("shut", "right"), ("from", "left", "x", 3), ("from", "left", "y", -FAR), ("from", "right", "v", 0))
    WRONG = tuple(EVERY) + (
        ("shut",), ("shut", "zz"), ("shut", "left", "x"), ("Shut", "left"), ("from", "left"), ("from", "left", "x"),
        ("from", "left", "u", 3), ("from", "left", "x", True), ("from", "left", "x", None), ("from", "left", "x", (3,)),
        ("from", "left", ("x",), 3), ("from", "zz", "x", 3), ("from", "left", "x", 3, 3), ("shut", "left", "x", 3),
        ("to", "left", "x", 3), ["shut", "left"], (("shut", "left"),), ("from", "left", 3, "x"), ("left", "shut"), (LESS, "left"))

    def test_is_mark(self):
        for value in self.RIGHT:
            self.assertIs(is_mark(STAIRS, value), True, value)
        for value in self.WRONG:
            self.assertIs(is_mark(STAIRS, value), False, value)

    def test_obeys(self):
        log = (("left", (3, 7)), ("right", (0, 0)), ("left", (5, -2)))
        for marks, right in (
                ((), True), ((("shut", "left"),), False), ((("shut", "right"),), False), ((("from", "left", "x", 3),), True),
                ((("from", "left", "x", 4),), False), ((("from", "left", "y", -2),), True), ((("from", "left", "y", -1),), False),
                ((("from", "left", "x", 0), ("from", "right", "u", 1)), False), ((("from", "right", "v", 0),) * 3, True)):
            self.assertIs(obeys(STAIRS, log, marks), right, marks)
            self.assertIs(obeys(STAIRS, (), marks), True)
        self.assertIs(obeys(STAIRS, log[1:2], (("shut", "left"),)), True)

    def test_obeys_against_definition(self):
        source = random.Random(312)
        for asked in many_asked(313, 40):
            marks = random_marks(source, asked)
            held = Held(asked, (), marks)
            log = tuple((stream, asked.random_row(source, stream)) for stream in source.choices(sorted(asked.streams), k=3))
            self.assertIs(obeys(asked.question, log, marks), all(held.obeys(*entry) for entry in log))
            self.assertTrue(all(is_mark(asked.question, mark) for mark in marks))


class Limits(unittest.TestCase):
    def test_six_rows_and_seven(self):
        self.assertEqual(MAX_ROWS, 6)
        rows = tuple((number,) for number in range(7))
        for many in range(8):
            one, other = State(LESS, left=rows[:many]), State(LESS, left=rows[many:])
            for call in (are_alike, parting_log):
                expect(self, call, (one, other), {}, False, TooMany, "limit", 6)
                expect(self, call, (one, other), {"marks": (("shut", "left"),)}, False, TooMany, "limit", 6)
            self.assertIs(are_alike(one, State(LESS, left=rows[many:6])) if many < 7 else False, False)
        for call in (spare_rows, lean, is_lean):
            expect(self, call, (State(LESS, left=rows),), {}, False, TooMany, "limit", 6)
            expect(self, call, (State(LESS, left=rows[:4], right=rows[:3]),), {}, False, TooMany, "limit", 6)
        six = State(LESS, left=rows[:6])
        self.assertEqual([spare_rows(six), lean(six).rows["left"]], [tuple(("left", row) for row in rows[1:6]), rows[:1]])

    def test_greatest(self):
        source = random.Random(314)
        four = Question(("or", ("and", ("<", "a", "b"), ("<", "b", "c"), ("<", "c", "d"), ("!=", "a", 0)),
                         ("and", ("=", "a", "d"), ("<", "b", 3), ("!=", "c", "a"), ("<=", 1, "c"))), p=("a",), q=("b",), r=("c",), s=("d",))
        for question in (WIDE, DEEP, four):
            for _ in range(3):
                rows = {}
                while sum(map(len, rows.values())) < 6:
                    stream = source.choice(question.streams)
                    row = tuple(source.randrange(-40, 40) for _ in question.columns_of(stream))
                    rows[stream] = rows.get(stream, ()) + (row,)
                state = State.of(question, rows)
                marks = tuple(("from", question.stream_of(column), column, source.randrange(-9, 9)) for column in question.columns)
                for some in ((), marks):
                    left = lean(state, marks=some)
                    self.assertIs(is_lean(left, marks=some), True)
                    for entry in spare_rows(state, marks=some):
                        self.assertIn(entry, state)
                half = {stream: rows[stream][:1] for stream in rows}
                one, other = State.of(question, half), State.of(question, {stream: rows[stream][1:2] for stream in rows})
                if len(one) + len(other) <= 6:
                    found = parting_log(one, other, marks=marks)
                    self.assertTrue(found is None or is_parting_log(one, other, found, marks=marks))


class Wrong(unittest.TestCase):
    def test_states(self):
        for value in NO_QUESTIONS:
            expect(self, State, (value,), {}, False, InvalidQuestion, None, value)
            expect(self, State.of, (value, {}), {}, False, InvalidQuestion, None, value)
            expect(self, State.of, (value, 5), {}, False, InvalidQuestion, None, value)
        no_tables = [value for value in EVERY if value != {}]
        no_tables += [{"zz": ()}, {"left": (), "zz": ()}, {1: ()}, {("left",): ()}, {"left": ((1,),), None: ()}, (), LOW]
        no_tables += [{"left": value} for value in no_tuples_of_rows(1)]
        for value in no_tables:
            expect(self, State.of, (LESS, value), {}, False, InvalidState, None, value)
        for value in no_tuples_of_rows(1):
            expect(self, State, (LESS,), {"left": value}, False, InvalidState, None, value)
        expect(self, State, (LESS,), {"zz": ()}, False, InvalidState, None, ())

    def test_methods(self):
        no_logs = [value for value in EVERY if value not in ((), (("left", (3,)), ("right", (2,))))]
        no_logs += [(("left", (3,)),) * 201, [("left", (3,))], (("left", 3),), (("left", (3,)), None), (("zz", (3,)),)]
        for value in no_logs:
            if value == ():
                continue
            expect(self, LOW.rings, (value,), {}, False, InvalidLog, None, value)
            expect(self, LOW.with_log, (value,), {}, False, InvalidLog, None, value)
        self.assertEqual(len(LOW.with_log((("left", (4,)),) * 200)), 2)
        for value in no_streams(LESS):
            expect(self, LOW.held, (value,), {}, False, UnknownName, "name", value)
            expect(self, LOW.without, (value, None), {}, False, UnknownName, "name", value)
        for value in (*no_rows(1), (4,), (2,)):
            expect(self, LOW.without, ("left", value), {}, False, InvalidRow, None, value)
        expect(self, LOW.without, ("right", (3,)), {}, False, InvalidRow, None, None)
        for value in (*NO_STATES, State(UNLIKE, left=((3,),)), State(STAIRS)):
            with self.assertRaises(InvalidOperation):
                LOW | value

    def test_functions(self):
        high = State(LESS, left=((5,),))
        no_marks = [value for value in EVERY if value != () and value != (("left", (3,)), ("right", (2,)))]
        no_marks += [(value,) for value in EVERY] + [[("shut", "left")], (("shut", "left"), None), ("shut", "left")]
        no_marks += [(("shut", "zz"),), (("from", "left", "u", 3),), {"shut": "left"}, (("from", "right", "u", True),)]
        wrong_marks = (tuple(no_marks), InvalidMark, None)
        for call in (are_alike, parting_log):
            check_wrong(self, call, [LOW, high, ()], [WRONG_STATE, WRONG_STATE, wrong_marks], names=("marks",))
        check_wrong(self, is_parting_log, [LOW, high, (), ()], [WRONG_STATE, WRONG_STATE, None, wrong_marks], names=("marks",))
        for call in (spare_rows, lean, is_lean):
            check_wrong(self, call, [LOW, ()], [WRONG_STATE, wrong_marks], names=("marks",))
        no_logs = tuple(value for value in EVERY if value not in ((), (("left", (3,)), ("right", (2,)))))
        questions = (NO_QUESTIONS, InvalidQuestion, None)
        check_wrong(self, obeys, [LESS, (), ()], [questions, (no_logs, InvalidLog, None), wrong_marks])
        check_wrong(self, is_mark, [LESS, None], [questions, None])

    def test_then(self):
        other = State(Question(("<", "x", "u"), left=("x",), right=("u",), more=("w",)))
        many = State(LESS, left=tuple((number,) for number in range(7)))
        for one, two in ((LOW, other), (other, LOW), (many, other), (LOW, State(UNLIKE))):
            for call in (are_alike, parting_log):
                expect(self, call, (one, two), {}, False, InvalidOperation, None, one)
            expect(self, is_parting_log, (one, two, ()), {}, False, InvalidOperation, None, one)
        expect(self, are_alike, (other, many), {"marks": (("shut", "zz"),)}, False, InvalidMark, None, None)
        # The marks are those of the question of the first state.
        expect(self, are_alike, (other, LOW), {"marks": (("shut", "more"),)}, False, InvalidOperation, None, None)
        expect(self, are_alike, (LOW, other), {"marks": (("shut", "more"),)}, False, InvalidMark, None, None)


if __name__ == "__main__":
    unittest.main()
