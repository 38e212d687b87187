"""[0.16], [13.1], [13.2] and what the document says of needrows.few.pasts."""
import itertools
import random
import unittest

from needrows.ask.logs import rings
from needrows.ask.questions import Question
from needrows.cover.regions import is_reason
from needrows.cover.tight import is_tight, reasons_of
from needrows.errors import InvalidNumber, InvalidOperation, InvalidRest, TooMany
from needrows.few.needs import any_need
from needrows.few.pasts import MAX_PAST, Past
from needrows.keep.states import State
from needrows.rises.standard import standard_rise
from tests.asked import (
    DEEP, EVERY, LESS, STAIRS, UNLIKE, WIDE, WITHIN, check_wrong, expect, many_asked, no_rests, wrong_rows, wrong_start)
from tests.helpers import FAR, is_whole

ROWS = ((0, 9), (5, 5), (9, 0))
RESTS = ({"right": (1, 10)}, {"right": (6, 6)}, {"right": (10, 1)})
PAST = Past(STAIRS, "left", ROWS, RESTS)
NEED = any_need(STAIRS, "left")
SELF = Question.of(("and", ("<", "x", "u"), ("<", "u", "y")), {"self": ("x", "y"), "question": ("u",)})
NO_RESTS = tuple(value for value in EVERY if value != ()) + (list(RESTS), RESTS[0], (RESTS, RESTS)) + tuple(
    (*RESTS[:2], value) for value in no_rests(STAIRS, "left"))
NO_NUMBERS = tuple(value for value in EVERY if not (is_whole(value) and 0 <= value < 8)) + (8, -1)
NO_INDICES = tuple(value for value in EVERY if not is_whole(value)) + (3, -1, FAR)


def past_in(asked, stream, rows, rests):
    """Whether rows and rests are a past by the definition."""
    if len(rows) != len(rests) or len(set(rows)) < len(rows):
        return False
    return all(
        asked.rings(stream, row, rest) == (one == other)
        for one, row in enumerate(rows) for other, rest in enumerate(rests))


def told_by_log(question, came):
    """A function that tells by the whole log whether it rings behind the entries that are asked."""
    return lambda log: rings(question, came + log)


class Made(unittest.TestCase):
    def test_against_definition(self):
        source = random.Random(221)
        made = 0
        for asked in many_asked(222, 90):
            stream = source.choice(sorted(asked.streams))
            rows = asked.random_rows(source, stream, source.randrange(5))
            rests = tuple(
                {other: asked.random_row(source, other) for other in reversed(asked.others(stream))}
                for _ in range(len(rows) - source.choice((0, 0, 0, 0, 1))) if rows)
            right = past_in(asked, stream, rows, rests)
            if right:
                made += 1
                past = Past(asked.question, stream, rows, rests)
                self.assertEqual([past.question, past.stream, past.rows, past.rests], [asked.question, stream, rows, rests])
                self.assertTrue(all(list(rest) == asked.others(stream) for rest in past.rests))
            else:
                arguments = (asked.question, stream, rows, rests)
                expect(self, Past, arguments, {}, False, InvalidOperation, None, rests)
        self.assertGreater(made, 20)

    def test_of_rows(self):
        source = random.Random(223)
        made = 0
        for asked in many_asked(224, 180, deep=4):
            for stream in asked.streams:
                rows = asked.random_rows(source, stream, source.randrange(5))
                tight = is_tight(asked.question, stream, tuple(sorted(rows)))
                if not tight:
                    expect(self, Past.of_rows, (asked.question, stream, rows), {}, False, InvalidOperation, None, rows)
                    continue
                made += len(rows) > 1
                past = Past.of_rows(asked.question, stream, rows)
                self.assertEqual([past.rows, past_in(asked, stream, rows, past.rests)], [rows, True])
                self.assertEqual(past, Past(asked.question, stream, rows, past.rests))
                for at, row in enumerate(rows):
                    others = rows[:at] + rows[at + 1:]
                    self.assertIs(is_reason(asked.question, stream, row, past.rests[at], beside=others), True)
        self.assertGreater(made, 20)

    def test_of_need(self):
        source = random.Random(225)
        for asked in many_asked(226, 54, deep=4):
            for stream in asked.streams:
                need = any_need(asked.question, stream)
                for many in (0, 1, 2, source.randrange(3, 9)) if need else ():
                    past = Past.of_need(asked.question, stream, need, many)
                    rows = standard_rise(asked.question, stream, need[1], many) if many else ()
                    self.assertEqual([past.rows, len(past)], [rows, many])
                    self.assertTrue(past_in(asked, stream, past.rows, past.rests))
                    if many <= 6:
                        self.assertIs(is_tight(asked.question, stream, tuple(sorted(past.rows))), True)

    def test_tight_rows_are_a_past(self):
        reasons = reasons_of(STAIRS, "left", ROWS)
        past = Past(STAIRS, "left", ROWS[::-1], tuple(reasons[row] for row in ROWS[::-1]))
        self.assertEqual(past.rows, ROWS[::-1])

    def test_without_rows(self):
        for past in (Past(LESS, "left", (), ()), Past.of_rows(LESS, "left", ()), Past.of_need(STAIRS, "left", NEED, 0)):
            self.assertEqual([past.rows, past.rests, len(past), past.write(0), bool(past)], [(), (), 0, (), False])
            self.assertEqual([past.read(None), past.read_number(None), past.wrong_at(0, None)], [(), 0, None])
            self.assertEqual(past.only(), past)
            for number in (1, -1, True):
                expect(self, past.write, (number,), {}, False, InvalidNumber, "value", number)
                expect(self, past.asking, (number,), {}, False, InvalidNumber, "value", number)
            expect(self, past.parting, ((), ()), {}, False, InvalidOperation, None, ())

    def test_limits(self):
        self.assertEqual(MAX_PAST, 60)
        for question, stream in ((STAIRS, "left"), (WITHIN, "probe"), (WIDE, "left"), (WIDE, "right"), (DEEP, "one")):
            need = any_need(question, stream)
            past = Past.of_need(question, stream, need, 60)
            self.assertEqual(past, Past(question, stream, past.rows, past.rests))
            number = 0x5a5a5a5a5a5a5a5 | 1 << 59
            self.assertEqual(past.read_number(lambda log: rings(question, past.write(number) + log)), number)
            self.assertEqual(Past.of_need(question, stream, need, 1).rows, past.rows[:1] if len(past.rows[0]) == 1 else
                             standard_rise(question, stream, need[1], 1))
        rows = tuple((number,) for number in range(61))
        same = Question(("=", "x", "u"), left=("x",), right=("u",))
        rests = tuple({"right": row} for row in rows)
        self.assertEqual(len(Past(same, "left", rows[:60], rests[:60])), 60)
        expect(self, Past, (same, "left", rows, rests), {}, False, TooMany, "limit", 60)
        expect(self, Past, (same, "left", rows, rests[::-1]), {}, False, InvalidOperation, None, rests)
        expect(self, Past, (same, "left", rows, rests[:60]), {}, False, InvalidOperation, None, rests)
        expect(self, Past, (same, "left", rows[:60] + rows[:1], rests), {}, False, InvalidOperation, None, rests)
        self.assertEqual(len(Past.of_rows(same, "left", rows[:12])), 12)
        expect(self, Past.of_rows, (same, "left", rows[:13]), {}, False, TooMany, "limit", 12)
        expect(self, Past.of_rows, (same, "left", rows[:12] + rows[:1]), {}, False, InvalidOperation, None, rows)
        eleven = tuple((number, 20 - number) for number in range(12))
        self.assertEqual(Past.of_rows(STAIRS, "left", eleven).rows, eleven)
        expect(self, Past.of_rows, (STAIRS, "left", eleven + ((12, 8),)), {}, False, TooMany, "limit", 12)
        three = Question(("=", "x", "u"), one=("x",), two=("u", "v"), six=("w",))
        self.assertEqual(len(Past.of_rows(three, "one", rows[:6])), 6)
        expect(self, Past.of_rows, (three, "one", rows[:7]), {}, False, TooMany, "limit", 6)

    def test_state_is_its_own(self):
        rest = {"right": (1, 10)}
        past = Past(STAIRS, "left", ROWS[:1], (rest,))
        rest["right"] = (0, 0)
        past.rests[0].clear()
        past.rests[0]["right"] = None
        self.assertEqual(past.rests, (RESTS[0],))
        need = ("need", NEED[1], dict(NEED[2]))
        some = Past.of_need(STAIRS, "left", need, 3)
        need[2].clear()
        self.assertEqual(some, Past.of_need(STAIRS, "left", NEED, 3))
        part = some.only(1)
        part.rests[0].clear()
        self.assertEqual(part.rests, some.rests[1:2])

    def test_streams_that_are_words(self):
        past = Past.of_need(SELF, "self", any_need(SELF, "self"), 4)
        self.assertEqual(past, Past(SELF, "self", past.rows, past.rests))
        self.assertEqual(past.asking(2), (("question", past.rests[2]["question"]),))


class Used(unittest.TestCase):
    def test_write_and_asking(self):
        for number in range(8):
            right = tuple(("left", ROWS[at]) for at in range(3) if number & 1 << at)
            self.assertEqual(PAST.write(number), right)
        self.assertEqual([PAST.asking(at) for at in range(3)], [(("right", rest["right"]),) for rest in RESTS])
        need = any_need(DEEP, "one")
        past = Past.of_need(DEEP, "one", need, 2)
        self.assertEqual(past.asking(1), (("some", past.rests[1]["some"]), ("two", past.rests[1]["two"])))

    def test_only(self):
        for many in range(4):
            for indices in itertools.permutations(range(3), many):
                right = Past(STAIRS, "left", tuple(ROWS[at] for at in indices), tuple(RESTS[at] for at in indices))
                self.assertEqual(PAST.only(*indices), right)
                self.assertEqual(PAST.only_all(indices), right)
        for indices in ((0, 0), (2, 1, 2)):
            expect(self, PAST.only, indices, {}, False, InvalidOperation, None, indices)
            expect(self, PAST.only_all, (indices,), {}, False, InvalidOperation, None, indices)
        for value in NO_INDICES:
            for indices in ((value,), (0, value), (value, 7), (1, 1, value), (value, 0, 0)):
                expect(self, PAST.only, indices, {}, False, InvalidNumber, "value", value)
                expect(self, PAST.only_all, (indices,), {}, False, InvalidNumber, "value", value)
            if type(value) is not tuple:
                expect(self, PAST.only_all, (value,), {}, False, InvalidOperation, None, value)

    def test_parting(self):
        subsets = [some for many in range(4) for some in itertools.combinations(range(3), many)]
        for some, others in itertools.product(subsets, repeat=2):
            if some == others:
                expect(self, PAST.parting, (some, others), {}, False, InvalidOperation, None, some)
            else:
                self.assertEqual(PAST.parting(some, others), PAST.asking(min(set(some) ^ set(others))))
        wrong = [value for value in EVERY if value not in ((), (0,), (1, 2)) or type(value) is not tuple]
        wrong += [(1, 0), (1, 1), (0, 3), (-1, 0), (0, True), (False,), [0, 1], {0: 1}, (0, (1,))]
        for value in wrong:
            expect(self, PAST.parting, (value, (0,)), {}, False, InvalidOperation, None, value)
            expect(self, PAST.parting, ((0, 1), value), {}, False, InvalidOperation, None, value)

    def test_read_out_of_logs(self):
        """[13.1]: whatever was written is read, also if the entries come in another order and several times."""
        source = random.Random(227)
        for asked in many_asked(228, 45, deep=4):
            for stream in asked.streams:
                need = any_need(asked.question, stream)
                if need is None:
                    continue
                past = Past.of_need(asked.question, stream, need, source.randrange(1, 6))
                for number in {0, 2 ** len(past) - 1, source.randrange(2 ** len(past))}:
                    log = list(past.write(number)) * source.choice((1, 2))
                    source.shuffle(log)
                    right = tuple(at for at in range(len(past)) if number & 1 << at)
                    state = State.of(asked.question, {}).with_log(tuple(log))
                    for told in (told_by_log(asked.question, tuple(log)), state.rings):
                        self.assertEqual(past.read(told), right)
                        self.assertEqual(past.read_number(told), number)
                        self.assertIsNone(past.wrong_at(number, told))
                        other = number ^ 1 << source.randrange(len(past))
                        first = min(at for at in range(len(past)) if (number ^ other) & 1 << at)
                        self.assertEqual(past.wrong_at(other, told), first)
                    if number != other:
                        others = tuple(at for at in range(len(past)) if other & 1 << at)
                        asking = past.parting(right, others)
                        self.assertNotEqual(rings(asked.question, past.write(number) + asking),
                                            rings(asked.question, past.write(other) + asking))

    def test_every_number(self):
        for number in range(8):
            told = told_by_log(STAIRS, PAST.write(number))
            self.assertEqual(PAST.read_number(told), number)
            for other in range(8):
                right = min((at for at in range(3) if (number ^ other) & 1 << at), default=None)
                self.assertEqual(PAST.wrong_at(other, told), right)

    def test_how_often_is_asked(self):
        calls = []

        def asked(log):
            calls.append(log)
            return answers[len(calls) - 1]

        every = [PAST.asking(at) for at in range(3)]
        for answers in itertools.product((True, False), repeat=3):
            calls.clear()
            self.assertEqual(PAST.read(asked), tuple(at for at in range(3) if answers[at]))
            self.assertEqual(calls, every)
            calls.clear()
            self.assertEqual(PAST.read_number(asked), sum(answers[at] << at for at in range(3)))
            self.assertEqual(calls, every)
            for number in range(8):
                calls.clear()
                wrong = PAST.wrong_at(number, asked)
                self.assertEqual(len(calls), 3 if wrong is None else wrong + 1)
        for value in (1, 0, None, "yes", (), [True], "", FAR, LESS):
            for at in range(3):
                answers = [True, True, True]
                answers[at] = value
                for call, arguments in ((PAST.read, ()), (PAST.read_number, ()), (PAST.wrong_at, (7,))):
                    calls.clear()
                    expect(self, call, (*arguments, asked), {}, False, InvalidOperation, None, value)
                    self.assertEqual(len(calls), at + 1)
        answers = [False, None, None]
        calls.clear()
        self.assertEqual(PAST.wrong_at(1, asked), 0)

    def test_errors_are_passed_on(self):
        def asked(log):
            raise KeyError(log)

        for call, arguments in ((PAST.read, ()), (PAST.read_number, ()), (PAST.wrong_at, (7,))):
            with self.assertRaises(KeyError) as caught:
                call(*arguments, asked)
            self.assertEqual(caught.exception.args, (PAST.asking(0),))

    def test_wrong_numbers(self):
        for value in NO_NUMBERS:
            expect(self, PAST.write, (value,), {}, False, InvalidNumber, "value", value)
            expect(self, PAST.wrong_at, (value, None), {}, False, InvalidNumber, "value", value)
        for value in NO_INDICES:
            expect(self, PAST.asking, (value,), {}, False, InvalidNumber, "value", value)
        self.assertEqual([len(PAST.write(0)), len(PAST.write(7))], [0, 3])

    def test_len_in_equal_text(self):
        self.assertEqual([len(PAST), str(PAST), str(PAST.only(1))], [3, "past of 3 rows of left", "past of 1 rows of left"])
        for row in ROWS:
            self.assertIn(row, PAST)
        for value in (*EVERY, (0, 8), [0, 9], (False, 9), (0, 9, 0), ("left", (0, 9)), RESTS[0]):
            self.assertNotIn(value, PAST)
        self.assertEqual(PAST, Past(STAIRS, "left", ROWS, RESTS))
        other = ({"right": (1, 11)}, *RESTS[1:])
        turned = STAIRS.with_columns(x="y", y="x")
        for value in (*EVERY, PAST.only(0, 1), PAST.only(2, 1, 0), Past(STAIRS, "left", ROWS, other),
                      Past(turned, "left", ROWS, RESTS), (ROWS, RESTS)):
            self.assertFalse(PAST == value)
            self.assertTrue(PAST != value)
        one, two = (Past(LESS, "left", ((number,),), ({"right": (5,)},)) for number in (1, 2))
        self.assertNotEqual(one, two)
        both = Question(("and", ("<", "x", "u"), ("<", "u", "x")), left=("x",), right=("u",))
        self.assertNotEqual(Past(both, "left", (), ()), Past(both, "right", (), ()))


class Wrong(unittest.TestCase):
    def test_one_and_two(self):
        start, rows = wrong_start(STAIRS), wrong_rows(STAIRS, "left")
        check_wrong(self, Past, [STAIRS, "left", ROWS, RESTS], [*start, rows, (NO_RESTS, InvalidRest, None)])
        no_needs = tuple(EVERY) + (("need", NEED[1], {"right": (0, 0)}), list(NEED), NEED[:2], any_need(WITHIN, "pair"))
        no_many = tuple(value for value in EVERY if not (is_whole(value) and 0 <= value <= 60)) + (61, -1)
        check_wrong(
            self, Past.of_need, [STAIRS, "left", NEED, 3],
            [*start, (no_needs, InvalidOperation, None), (no_many, InvalidNumber, "value")])
        check_wrong(self, Past.of_rows, [STAIRS, "left", ROWS], [*start, rows])

    def test_no_past(self):
        for rows, rests in (
                (ROWS, RESTS[::-1]), (ROWS, RESTS[:2]), (ROWS[:2], RESTS), (ROWS[:1] * 2, RESTS[:1] * 2), ((), RESTS[:1]),
                (ROWS, RESTS[:2] + ({"right": (10, 6)},)), (ROWS, RESTS[:2] + ({"right": (1, 1)},))):
            expect(self, Past, (STAIRS, "left", rows, rests), {}, False, InvalidOperation, None, rows)
        for rows in (ROWS + ROWS[:1], ROWS + ((10, 1),), ((1,), (2,))):
            question = STAIRS if len(rows[0]) == 2 else LESS
            expect(self, Past.of_rows, (question, "left", rows), {}, False, InvalidOperation, None, rows)
        self.assertEqual(len(Past.of_rows(UNLIKE, "left", ((1,), (2,)))), 2)


if __name__ == "__main__":
    unittest.main()
