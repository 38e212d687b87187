"""[0.16], [15.1], [15.2] and what the document says of needrows.keep.keepers."""
import itertools
import random
import unittest

from needrows.ask.logs import entries_of, rings, rows_of
from needrows.ask.questions import Question
from needrows.cover.kept import kept_part
from needrows.cover.regions import is_covered, is_reason
from needrows.cover.tight import is_tight
from needrows.errors import (
    InvalidLog, InvalidNumber, InvalidOperation, InvalidQuestion, InvalidRow, InvalidState, NothingToUndo, TooMany,
    UnknownName)
from needrows.keep.keepers import Keeper
from needrows.keep.states import State, are_alike
from tests.asked import (
    DEEP, EVERY, LESS, NO_QUESTIONS, SHAPES, STAIRS, UNLIKE, WIDE, WITHIN, check_wrong, expect, many_asked, no_rows,
    no_streams)
from tests.helpers import FAR, is_whole
from tests.test_states import Held

LOG = (("left", (5,)), ("left", (2,)), ("right", (1,)))
NO_LOGS = tuple(value for value in EVERY if value not in ((), (("left", (3,)), ("right", (2,))))) + (
    LOG * 67, list(LOG), (LOG,), (("left", 5),), (("left", (True,)),), (("zz", (1,)),), (*LOG, None))
STAIR = tuple((number, 40 - number) for number in range(30))
SAME = Question(("=", "x", "u"), one=("x",), two=("u", "v"), six=("w",))


def entries(stream, rows):
    return tuple((stream, row) for row in rows)


class Memory:
    """A memory that keeps all entries, and how many of them cannot be taken back."""

    def __init__(self, asked, came=(), fixed=0):
        self.asked = asked
        self.came = list(came)
        self.fixed = fixed

    def rings(self, log=()):
        return rings(self.asked.question, (*self.came, *log)[-200:])

    def twin(self):
        return Memory(self.asked, self.came, self.fixed)


class Keeping(unittest.TestCase):
    def check(self, keeper, memory, source):
        question = memory.asked.question
        self.assertEqual([keeper.came, keeper.has_rung], [len(memory.came), memory.rings()])
        self.assertEqual(list(keeper.rows), sorted(memory.asked.streams))
        for stream, held in keeper.rows.items():
            self.assertIs(is_tight(question, stream, held), True)
            for row in rows_of(question, stream, tuple(memory.came)):
                self.assertIs(is_covered(question, stream, row, by=held), True)
            for row in held:
                self.assertIn((stream, row), memory.came)
                others = tuple(one for one in held if one != row)
                self.assertIs(is_reason(question, stream, row, keeper.reason(stream, row), beside=others), True)
        for many in (0, 1, 2, 3):
            log = self.log(memory.asked, source, many)
            self.assertIs(keeper.would_ring(log), memory.rings(log))
        held = State.of(question, keeper.rows)
        self.assertEqual([keeper.checkpoint(), len(keeper)], [held, len(held)])

    def log(self, asked, source, many):
        streams = source.choices(sorted(asked.streams), k=many)
        return tuple((stream, asked.random_row(source, stream, -2, 5)) for stream in streams)

    def deed(self, keeper, memory, source):
        """Do one thing to a keeper and a memory, and return those that go on."""
        asked = memory.asked
        kind = source.randrange(9)
        if kind < 3:
            (stream, row), = log = self.log(asked, source, 1)
            memory.came += log
            self.assertIs(keeper.put(stream, row), memory.rings())
        elif kind == 3:
            log = self.log(asked, source, source.randrange(5))
            memory.came += log
            self.assertIs(keeper.put_all(log), memory.rings())
        elif kind == 4:
            many = source.randrange(4)
            if many > len(memory.came) - memory.fixed:
                before = keeper.twin()
                expect(self, keeper.undo, (), {"many": many}, False, NothingToUndo, "many", many)
                self.assertEqual(keeper, before)
            else:
                del memory.came[len(memory.came) - many:]
                self.assertEqual(keeper.undo(many=many), len(memory.came))
        elif kind == 5:
            before = keeper.twin()
            with keeper.trial() as one:
                self.assertIs(one, keeper)
                inner = memory.twin()
                for _ in range(2):
                    one, inner = self.deed(one, inner, source)
                self.check(one, inner, source)
            self.assertEqual(keeper, before)
        elif kind == 6:
            self.deed(keeper.twin(), memory.twin(), source)
        elif kind == 7:
            log = self.log(asked, source, 3)
            other = Keeper.of_log(asked.question, log)
            keeper, memory = keeper.joined(other), Memory(asked, (*memory.came, *log), len(memory.came) + 3)
        else:
            state = keeper.checkpoint()
            keeper = Keeper.of_state(state)
            held = [entry for stream, rows in state.rows.items() for entry in entries(stream, rows)]
            # What came ahead is forgotten: only the held rows came.
            memory = Memory(asked, held, len(held))
        return keeper, memory

    def test_histories(self):
        source = random.Random(401)
        for asked in many_asked(402, 90, SHAPES, 4):
            keeper, memory = Keeper(asked.question), Memory(asked)
            self.check(keeper, memory, source)
            for _ in range(12):
                keeper, memory = self.deed(keeper, memory, source)
                self.check(keeper, memory, source)

    def test_all_later_logs(self):
        """By all logs that can come with integers near the rows that came and the points, one entry of a stream."""
        source = random.Random(410)
        forgotten = 0
        for asked in many_asked(411, 40, ((1, 1), (2, 1), (1, 2), (1, 1, 1), (2, 2)), 4):
            log = self.log(asked, source, 5)
            keeper = Keeper.of_log(asked.question, log)
            keeper.put_all(log[:1])
            keeper.undo()
            whole = State.of(asked.question, {}).with_log(log)
            forgotten += len(whole) - len(keeper)
            held = Held(asked, (whole,), ())
            for later in itertools.islice(held.logs(), 0, None, 3):
                self.assertIs(keeper.would_ring(later), held.rings(whole.rows, later))
        self.assertGreater(forgotten, 40)

    def test_as_if_all_rows_were_kept(self):
        """[0.16]: of the rows that a keeper forgets none can change an answer: the states are alike."""
        source = random.Random(403)
        done = 0
        for asked in many_asked(404, 120, SHAPES, 4):
            log = self.log(asked, source, 4)
            keeper = Keeper.of_log(asked.question, log)
            whole = State.of(asked.question, {}).with_log(log)
            if len(whole) + len(keeper) <= 6:
                done += len(whole) > len(keeper)
                self.assertIs(are_alike(whole, keeper.checkpoint()), True)
        self.assertGreater(done, 20)

    def test_joined_undone_and_continued(self):
        """[0.16]: keepers that are joined, undone or continued from a state answer as if they had kept all rows."""
        source = random.Random(405)
        for asked in many_asked(406, 54, SHAPES, 4):
            one, other, later = (self.log(asked, source, many) for many in (4, 3, 3))
            both = Keeper.of_log(asked.question, one).joined(Keeper.of_log(asked.question, other))
            state = Keeper.of_state(Keeper.of_log(asked.question, one).checkpoint())
            state.put_all(other)
            undone = Keeper.of_log(asked.question, one)
            undone.put_all(later)
            undone.undo(many=3)
            undone.put_all(other)
            for keeper in (both, state, undone):
                for log in ((), later[:1], later):
                    self.assertIs(keeper.would_ring(log), rings(asked.question, one + other + log))


class Deeds(unittest.TestCase):
    def test_nothing_came(self):
        keeper = Keeper(LESS)
        self.assertEqual([keeper.question, keeper.rows, keeper.has_rung, keeper.came, len(keeper), str(keeper)],
                         [LESS, {"left": (), "right": ()}, False, 0, 0, "keeper of 0 rows, 0 came"])
        self.assertEqual([keeper.undo(many=0), keeper.put_all(()), keeper.would_ring(()), keeper.checkpoint()],
                         [0, False, False, State(LESS)])
        for many in (1, 2, FAR):
            expect(self, keeper.undo, (), {"many": many}, False, NothingToUndo, "many", many)
        expect(self, keeper.undo, (), {}, False, NothingToUndo, "many", 1)
        for other in (Keeper.of_log(LESS, ()), Keeper.of_state(State(LESS)), keeper.twin(), keeper.joined(keeper)):
            self.assertEqual(other, keeper)

    def test_entries_that_came_twice(self):
        keeper = Keeper(LESS)
        for count in range(1, 4):
            self.assertIs(keeper.put("left", (5,)), False)
            self.assertEqual([keeper.came, keeper.rows["left"]], [count, ((5,),)])
        self.assertEqual([keeper.undo(), keeper.rows["left"], keeper.undo(many=2), keeper.rows["left"]], [2, ((5,),), 0, ()])

    def test_undo(self):
        keeper = Keeper(LESS)
        seen = [keeper.twin()]
        for stream, row in (*LOG, ("right", (9,)), ("left", (-4,))):
            keeper.put(stream, row)
            seen.append(keeper.twin())
        self.assertEqual([one.has_rung for one in seen], [False] * 4 + [True] * 2)
        for many in range(6):
            some = keeper.twin()
            self.assertEqual(some.undo(many=many), 5 - many)
            self.assertEqual(some, seen[5 - many])
            some.put_all(LOG)
            self.assertEqual(some.came, 8 - many)
        expect(self, keeper.undo, (), {"many": 6}, False, NothingToUndo, "many", 6)
        self.assertEqual(keeper, seen[5])
        keeper.undo(many=5)
        expect(self, keeper.undo, (), {}, False, NothingToUndo, "many", 1)
        for value in (*(value for value in EVERY if not is_whole(value)), -1, -FAR):
            expect(self, keeper.undo, (), {"many": value}, False, InvalidNumber, "value", value)

    def test_what_cannot_be_undone(self):
        one = Keeper(LESS)
        one.put_all(LOG)
        for keeper, came in (
                (one.joined(one), 6), (Keeper.of_log(LESS, LOG), 3), (Keeper.of_state(one.checkpoint()), 2),
                (one.joined(Keeper(LESS)), 3), (Keeper(LESS).joined(one), 3)):
            self.assertEqual(keeper.came, came)
            expect(self, keeper.undo, (), {}, False, NothingToUndo, "many", 1)
            self.assertEqual(keeper.undo(many=0), came)
            before = keeper.twin()
            keeper.put_all((("left", (-9,)), ("right", (50,))))
            self.assertEqual(keeper.has_rung, True)
            expect(self, keeper.undo, (), {"many": 3}, False, NothingToUndo, "many", 3)
            self.assertEqual([keeper.undo(many=2), keeper], [came, before])
        self.assertEqual(one.undo(many=3), 0)

    def test_trials(self):
        keeper = Keeper(LESS)
        keeper.put_all(LOG)
        before = keeper.twin()
        with keeper.trial() as one:
            self.assertIs(one, keeper)
            one.put("right", (9,))
            with one.trial() as two:
                self.assertIs(two, keeper)
                self.assertEqual(two.undo(many=4), 0)
                two.put("left", (70,))
                self.assertEqual(two.rows["left"], ((70,),))
            self.assertEqual([keeper.came, keeper.has_rung, keeper.rows["left"]], [4, True, ((2,),)])
            self.assertEqual(keeper.undo(many=2), 2)
        self.assertEqual(keeper, before)
        self.assertEqual([keeper.undo(), keeper.rows["right"]], [2, ()])
        keeper.put("right", (1,))
        for kind in (KeyError, TooMany, NothingToUndo):
            with self.assertRaises(kind):
                with keeper.trial() as one:
                    one.undo(many=3)
                    one.put("right", (60,))
                    raise kind(1)
            self.assertEqual(keeper, before)
        block = keeper.trial()
        keeper.put("left", (1,))
        for _ in range(2):
            with block as one:
                one.put("left", (0,))
            self.assertEqual([keeper.came, keeper.rows["left"]], [4, ((1,),)])

    def test_during(self):
        keeper = Keeper.of_log(LESS, LOG)
        before = keeper.twin()
        seen = []

        def call(one):
            seen.append(one)
            one.put("right", (9,))
            return one.has_rung, one.during(lambda two: two.undo(many=1)), one.came

        self.assertEqual(keeper.during(call), (True, 3, 4))
        self.assertIs(seen[0], keeper)
        self.assertEqual(keeper, before)

        def wrong(one):
            one.put("right", (9,))
            raise KeyError("wrong")

        with self.assertRaises(KeyError):
            keeper.during(wrong)
        self.assertEqual(keeper, before)
        self.assertIsNone(keeper.during(lambda one: None))

    def test_twins(self):
        keeper = Keeper(LESS)
        keeper.put_all(LOG)
        twin = keeper.twin()
        self.assertEqual(twin, keeper)
        twin.put("right", (9,))
        self.assertEqual([keeper.came, keeper.has_rung, twin.came, twin.has_rung], [3, False, 4, True])
        keeper.undo(many=3)
        self.assertEqual([twin.undo(many=4), twin], [0, keeper])
        self.assertIsNot(twin, keeper)

    def test_joined(self):
        one, other = Keeper.of_log(LESS, LOG), Keeper.of_log(LESS, (("right", (6,)),))
        both = one.joined(other)
        self.assertEqual([both.rows, both.has_rung, both.came], [{"left": ((2,),), "right": ((6,),)}, True, 4])
        self.assertEqual([one.came, other.came, one.has_rung, other.has_rung], [3, 1, False, False])
        itself = one.joined(one)
        self.assertEqual([itself.rows, itself.came], [one.rows, 6])
        for value in (*EVERY, Keeper(UNLIKE), Keeper(STAIRS), one.checkpoint(), Keeper):
            expect(self, one.joined, (value,), {}, False, InvalidOperation, None, value)

    def test_a_cover_of_two_rows(self):
        """[0.17]: rows that no single row covers can be forgotten."""
        keeper = Keeper.of_log(WITHIN, entries("pair", ((0, 6), (4, 10))))
        keeper.put("pair", (1, 9))
        self.assertEqual(keeper.rows["pair"], ((0, 6), (4, 10)))
        keeper.put("pair", (0, 10))
        self.assertEqual(keeper.rows["pair"], ((0, 10),))
        self.assertEqual([keeper.undo(), keeper.rows["pair"]], [3, ((0, 6), (4, 10))])

    def test_reason(self):
        keeper = Keeper.of_log(STAIRS, entries("left", STAIR[:5]) + entries("left", ((9, 90),)))
        for row in STAIR[:5]:
            others = tuple(one for one in STAIR[:5] if one != row)
            found = keeper.reason("left", row)
            self.assertIs(is_reason(STAIRS, "left", row, found, beside=others), True)
            self.assertIs(keeper.twin().would_ring(entries_of(STAIRS, "left", found)), True)
            found.clear()
        self.assertEqual(len(keeper.reason("left", STAIR[0])), 1)
        for row in ((9, 90), (0, 41), (FAR, -FAR)):
            expect(self, keeper.reason, ("left", row), {}, False, InvalidOperation, None, row)
        expect(self, keeper.reason, ("right", STAIR[0]), {}, False, InvalidOperation, None, None)

    def test_equal_in_and_text(self):
        keeper = Keeper.of_log(LESS, LOG)
        self.assertEqual([len(keeper), str(keeper)], [2, "keeper of 2 rows, 3 came"])
        self.assertEqual(str(Keeper.of_log(LESS, (*LOG, ("right", (3,))))), "keeper of 2 rows, 4 came, rung")
        self.assertTrue(("left", (2,)) in keeper and ("right", (1,)) in keeper)
        for value in (*EVERY, ("left", (5,)), ("right", (2,)), ("left", [2]), ["left", (2,)], ("right", (True,)), (2,)):
            self.assertNotIn(value, keeper)
        more = keeper.twin()
        more.put("left", (2,))
        other = Keeper.of_log(LESS, (("left", (2,)), ("right", (0,)), ("right", (-1,))))
        turned = Keeper.of_log(LESS.with_condition(("<=", "x", "u")), LOG)
        self.assertEqual([turned.rows, turned.came, turned.has_rung], [keeper.rows, keeper.came, keeper.has_rung])
        for value in (*EVERY, more, other, turned, Keeper(LESS), keeper.checkpoint(), keeper.rows):
            self.assertFalse(keeper == value)
            self.assertTrue(keeper != value)
        again = Keeper(LESS)
        again.put_all(LOG)
        self.assertTrue(again == keeper)

    def test_state_is_its_own(self):
        keeper = Keeper.of_log(LESS, LOG)
        keeper.rows.clear()
        keeper.rows["left"] = ()
        state = keeper.checkpoint()
        keeper.put("left", (0,))
        self.assertEqual([state.rows, keeper.rows["left"]], [{"left": ((2,),), "right": ((1,),)}, ((0,),)])
        started = Keeper.of_state(state)
        started.put("left", (-1,))
        self.assertEqual(state.rows["left"], ((2,),))

    def test_streams_that_are_words(self):
        question = Question.of(("<", "x", "u"), {"self": ("x",), "stream": ("u",)})
        keeper = Keeper.of_log(question, (("self", (3,)), ("stream", (4,))))
        self.assertEqual([keeper.has_rung, keeper.checkpoint().rows], [True, {"self": ((3,),), "stream": ((4,),)}])
        self.assertEqual(Keeper.of_state(keeper.checkpoint()).rows, keeper.rows)


class Many(unittest.TestCase):
    def test_thirteen_needed_rows(self):
        keeper = Keeper(STAIRS)
        for row in STAIR[:12]:
            keeper.put("left", row)
        before = keeper.twin()
        expect(self, keeper.put, ("left", STAIR[12]), {}, False, TooMany, "limit", 12)
        for log in (entries("left", STAIR[12:13]), (("right", (-5, 5)), ("left", (50, -50)), ("right", (9, 9)))):
            expect(self, keeper.put_all, (log,), {}, False, TooMany, "limit", 12)
            self.assertEqual(keeper, before)
        expect(self, Keeper.of_log, (STAIRS, entries("left", STAIR[:13])), {}, False, TooMany, "limit", 12)
        self.assertEqual([keeper.undo(many=12), keeper.put("left", STAIR[12])], [0, False])
        keeper = before.twin()
        keeper.put("left", (-1, 29))
        self.assertEqual([keeper.rows["left"], keeper.came], [((-1, 29),), 13])
        self.assertIs(before.put("right", (50, 50)), True)

    def test_rows_that_are_not_needed_any_more(self):
        """Entry by entry a row too many came; all rows of a state together have a tight part that is short."""
        pieces = tuple((4 * at, 4 * at + 3) for at in range(40))
        whole = ((-1, 400),)
        log = entries("pair", pieces[:13] + whole)
        expect(self, Keeper.of_log, (WITHIN, log), {}, False, TooMany, "limit", 12)
        for many in (13, 24, 25, 40):
            state = State(WITHIN, pair=pieces[:many] + whole)
            self.assertEqual(Keeper.of_state(state).rows["pair"], whole)
            self.assertEqual(Keeper.of_state(state).came, many + 1)
            expect(self, Keeper.of_state, (State(WITHIN, pair=pieces[:many]),), {}, False, TooMany, "limit", 12)
        self.assertEqual(Keeper.of_state(State(WITHIN, pair=pieces[:12])).rows["pair"], pieces[:12])
        self.assertEqual(Keeper.of_log(WITHIN, log[::-1]).rows["pair"], whole)

    def test_joined_to_too_many(self):
        one, other = (Keeper.of_log(STAIRS, entries("left", rows)) for rows in (STAIR[:7], STAIR[6:13]))
        expect(self, one.joined, (other,), {}, False, TooMany, "limit", 12)
        self.assertEqual(len(one.joined(Keeper.of_log(STAIRS, entries("left", STAIR[4:12])))), 12)
        full = Keeper.of_log(WITHIN, entries("pair", tuple((4 * at, 4 * at + 3) for at in range(12))))
        more = Keeper.of_log(WITHIN, entries("pair", tuple((4 * at - 1, 4 * at + 3) for at in range(12))))
        self.assertEqual(full.joined(more).rows, more.rows)

    def test_seven_beside_three_columns(self):
        rows = tuple((number,) for number in range(30))
        keeper = Keeper.of_log(SAME, entries("one", rows[:6]))
        before = keeper.twin()
        expect(self, keeper.put, ("one", (6,)), {}, False, TooMany, "limit", 6)
        self.assertEqual(keeper, before)
        for many in (7, 12, 13, 30):
            expect(self, Keeper.of_state, (State(SAME, one=rows[:many]),), {}, False, TooMany, "limit", 6)
        self.assertEqual(len(Keeper.of_state(State(SAME, one=rows[:6]))), 6)
        expect(self, keeper.joined, (Keeper.of_log(SAME, entries("one", rows[5:7])),), {}, False, TooMany, "limit", 6)
        # The other streams of `two` have two columns, and all its rows with one u are alike.
        many = tuple((number, number + at) for number in range(12) for at in range(3))
        self.assertEqual(len(Keeper.of_log(SAME, entries("two", many))), 12)
        expect(self, Keeper.of_log, (SAME, entries("two", many + ((12, 0),))), {}, False, TooMany, "limit", 12)

    def test_would_ring_with_too_many(self):
        keeper = Keeper.of_log(STAIRS, entries("left", STAIR[:12]))
        before = keeper.twin()
        log = entries("left", STAIR[12:30])
        self.assertIs(keeper.would_ring(log), False)
        self.assertIs(keeper.would_ring((*log, ("right", (30, 12)))), True)
        self.assertIs(keeper.would_ring((*log, ("right", (-1, 12)))), False)
        self.assertIs(keeper.would_ring(log * 11 + (("right", (40, 40)),)), True)
        self.assertEqual(keeper, before)
        keeper.put("right", (99, 99))
        self.assertIs(keeper.would_ring(()), True)

    def test_tight_parts_of_many_rows(self):
        """By a few rests at a time the same part is found as by all rests about all rows."""
        source = random.Random(407)
        for asked in many_asked(408, 40, ((1, 1), (2, 1), (1, 2), (1, 1, 1)), 4):
            for stream in asked.streams:
                rows = sorted(set(asked.random_rows(source, stream, 60, -20, 20)))
                try:
                    part = kept_part(asked.question, stream, rows)
                except TooMany as error:
                    # Rows that are needed beside all others are in each tight part.
                    self.assertEqual(error.limit, 12)
                    self.assertGreater(len(rows), 12)
                    continue
                self.assertIs(is_tight(asked.question, stream, part), True)
                for row in rows:
                    self.assertIs(is_covered(asked.question, stream, row, by=part), True)

    def test_greatest(self):
        source = random.Random(409)
        for question in (WIDE, DEEP, SAME, STAIRS):
            log = []
            for _ in range(200):
                stream = source.choice(question.streams)
                log.append((stream, tuple(source.randrange(-60, 60) for _ in question.columns_of(stream))))
            keeper = Keeper(question)
            for stream, row in log:
                try:
                    keeper.put(stream, row)
                except TooMany as error:
                    self.assertEqual(error.limit, 6 if len(question.rest_columns(stream)) == 3 else 12)
            keeper.would_ring(tuple(log))
            state = State.of(question, {}).with_log(tuple(log))
            for one in (keeper.checkpoint(), state):
                try:
                    self.assertIs(Keeper.of_state(one).has_rung, one.rings())
                except TooMany:
                    self.assertIs(one, state)
            keeper.joined(keeper)


class Wrong(unittest.TestCase):
    def test_one_and_two(self):
        for value in NO_QUESTIONS:
            expect(self, Keeper, (value,), {}, False, InvalidQuestion, None, value)
        questions, no_logs = (NO_QUESTIONS, InvalidQuestion, None), (NO_LOGS, InvalidLog, None)
        check_wrong(self, Keeper.of_log, [LESS, LOG], [questions, no_logs])
        for value in (*EVERY, {"left": ()}, Keeper(LESS)):
            expect(self, Keeper.of_state, (value,), {}, False, InvalidState, None, value)
        keeper = Keeper.of_log(LESS, LOG)
        before = keeper.twin()
        streams, rows = (no_streams(LESS), UnknownName, "name"), (no_rows(1), InvalidRow, None)
        for call in (keeper.put, keeper.reason):
            check_wrong(self, call, ["left", (2,)], [streams, rows])
        for value in NO_LOGS:
            for call in (keeper.put_all, keeper.would_ring):
                expect(self, call, (value,), {}, False, InvalidLog, None, value)
        self.assertEqual(keeper, before)
        self.assertEqual(keeper.put_all(entries("left", ((9,),)) * 200), False)


if __name__ == "__main__":
    unittest.main()
