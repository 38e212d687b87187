"""[0.11], [5.1] and what the document says of needrows.ask.logs."""
import itertools
import random
import unittest

from needrows.ask.logs import (
    entries_of, first_ring, is_entry, is_log, is_row, matches, rest_rings, rings, rows_of)
from needrows.ask.questions import Question
from needrows.errors import InvalidLog, InvalidQuestion
from tests.asked import (
    EVERY, FAR_ROWS, LESS, NO_QUESTIONS, STAIRS, WITHIN, check_wrong, expect, many_asked, no_rests, no_rows, no_streams,
    wrong_rest, wrong_row, wrong_start)
from tests.helpers import FAR

LOG = (("left", (1, 9)), ("right", (5, 9)), ("left", (4, 2)), ("right", (5, 3)))
ENTRY = ("left", (1, 2))
NO_ENTRIES = tuple(EVERY) + (
    (), ("left",), ("left", (1, 2), (3, 4)), ["left", (1, 2)], ((1, 2), "left"), ("Left", (1, 2)), ("x", (1, 2)),
    (["left"], (1, 2)), (None, (1, 2)), ({}, (1, 2)), {"left": (1, 2)}, (ENTRY,), (1, ENTRY)) + tuple(
        ("left", row) for row in no_rows(2))
NO_LOGS = tuple(value for value in EVERY if value != ()) + (
    [ENTRY], {"left": (1, 2)}, ENTRY, None, {ENTRY: True}, (ENTRY,) * 201, (ENTRY,) * 300) + tuple(
        part for value in NO_ENTRIES for part in ((value,), (ENTRY, value), (value, ENTRY)))
WRONG_LOG = (NO_LOGS, InvalidLog, None)


def random_log(source, asked, many, low=-2, high=6):
    found = []
    for _ in range(many):
        stream = source.choice(list(asked.streams))
        found.append((stream, asked.random_row(source, stream, low, high)))
    return tuple(found)


def matches_in(asked, log):
    """All matches by the definition, in the order of their rows."""
    held = [sorted({row for name, row in log if name == stream}) for stream in asked.streams]
    every = [dict(zip(asked.streams, rows)) for rows in itertools.product(*held)]
    return [rows for rows in every if asked.holds(rows)]


class Forms(unittest.TestCase):
    def test_rows(self):
        for question, stream, row in (
                (LESS, "left", (3,)), (LESS, "right", (-FAR,)), (STAIRS, "left", (3, 3)), (STAIRS, "right", FAR_ROWS),
                (WITHIN, "pair", (5, 0)), (WITHIN, "probe", (0,))):
            self.assertIs(is_row(question, stream, row), True)
            self.assertIs(is_row(question, stream, list(row)), False)
            self.assertIs(is_entry(question, (stream, row)), True)
            self.assertIs(is_log(question, ((stream, row),)), True)
            for value in no_rows(len(row)):
                self.assertIs(is_row(question, stream, value), False, value)
                self.assertIs(is_entry(question, (stream, value)), False, value)
        self.assertEqual([is_row(WITHIN, "pair", (1,)), is_row(WITHIN, "probe", (1, 2))], [False, False])

    def test_entries(self):
        for value in NO_ENTRIES:
            self.assertIs(is_entry(STAIRS, value), False, value)

    def test_logs(self):
        for log in ((), LOG, (ENTRY,), (ENTRY,) * 200, LOG * 50):
            self.assertIs(is_log(STAIRS, log), True)
        for value in NO_LOGS:
            self.assertIs(is_log(STAIRS, value), False, value)
        self.assertEqual([is_log(LESS, LOG), is_log(LESS, ())], [False, True])

    def test_wrong(self):
        start = wrong_start(STAIRS)
        check_wrong(self, is_row, [STAIRS, "left", (1, 2)], [*start, None])
        check_wrong(self, is_entry, [STAIRS, ENTRY], [start[0], None])
        check_wrong(self, is_log, [STAIRS, LOG], [start[0], None])
        for value in EVERY:
            for call in (lambda: is_row(value, "left", value), lambda: is_entry(value, value), lambda: is_log(value, value)):
                if not isinstance(value, Question):
                    expect(self, call, (), {}, False, InvalidQuestion, None, value)


class Parts(unittest.TestCase):
    def test_rows_of(self):
        self.assertEqual(rows_of(STAIRS, "right", LOG), ((5, 3), (5, 9)))
        self.assertEqual(rows_of(STAIRS, "left", LOG + LOG), ((1, 9), (4, 2)))
        self.assertEqual([rows_of(STAIRS, "left", ()), rows_of(STAIRS, "right", (ENTRY,))], [(), ()])
        source = random.Random(41)
        for asked in many_asked(42, 20):
            log = random_log(source, asked, 12, 0, 3)
            for stream in asked.streams:
                right = tuple(sorted({row for name, row in log if name == stream}))
                self.assertEqual(rows_of(asked.question, stream, log), right)
        check_wrong(self, rows_of, [STAIRS, "left", LOG], [*wrong_start(STAIRS), WRONG_LOG])

    def test_entries_of(self):
        question = Question(("always",), b=("x",), a=("y", "z"), c=("u",))
        rest = {"c": (4,), "a": (2, 1)}
        self.assertEqual(entries_of(question, "b", rest), (("a", (2, 1)), ("c", (4,))))
        self.assertEqual(list(rest), ["c", "a"])
        self.assertEqual(entries_of(LESS, "right", {"left": (FAR,)}), (("left", (FAR,)),))
        check_wrong(self, entries_of, [question, "b", rest], [*wrong_start(question), wrong_rest(question, "b")])


class Ringing(unittest.TestCase):
    def test_against_oracle(self):
        source = random.Random(43)
        for at, asked in enumerate(many_asked(44, 120)):
            log = random_log(source, asked, at % 13)
            right = matches_in(asked, log)
            found = list(matches(asked.question, log))
            self.assertEqual(found, right, (asked.condition, log))
            self.assertTrue(all(list(match) == list(asked.streams) for match in found))
            self.assertIs(rings(asked.question, log), bool(right))
            firsts = [at for at in range(len(log)) if matches_in(asked, log[:at + 1])]
            self.assertEqual(first_ring(asked.question, log), firsts[0] if firsts else None)

    def test_order_and_number_do_not_count(self):
        source = random.Random(45)
        for asked in many_asked(46, 30):
            log = random_log(source, asked, 7)
            whole = list(matches(asked.question, log))
            for _ in range(3):
                other = [*log, *source.choices(log, k=4)]
                source.shuffle(other)
                self.assertEqual(list(matches(asked.question, tuple(other))), whole)
                self.assertIs(rings(asked.question, tuple(other)), bool(whole))

    def test_empty_and_lacking(self):
        always = Question(("always",), a=("x",), b=("y",), c=("z",))
        for log in ((), (("a", (1,)),), (("a", (1,)), ("b", (2,))) * 3):
            self.assertEqual([list(matches(always, log)), rings(always, log), first_ring(always, log)], [[], False, None])
        log = (("c", (7,)), ("b", (1,)), ("b", (1,)), ("a", (2,)), ("a", (1,)))
        self.assertEqual(first_ring(always, log), 3)
        self.assertEqual(list(matches(always, log)), [{"a": (1,), "b": (1,), "c": (7,)}, {"a": (2,), "b": (1,), "c": (7,)}])
        never = always.with_condition(("never",))
        self.assertEqual([list(matches(never, log)), rings(never, log), first_ring(never, log)], [[], False, None])

    def test_rest_rings(self):
        source = random.Random(47)
        for asked in many_asked(48, 60):
            for stream in asked.streams:
                row = asked.random_row(source, stream)
                rest = {other: asked.random_row(source, other) for other in asked.others(stream)}
                told = rest_rings(asked.question, stream, row, rest)
                self.assertIs(told, bool(asked.rings(stream, row, rest)))
                self.assertIs(told, rings(asked.question, ((stream, row), *rest.items())))

    def test_great_logs(self):
        columns = {"a": ("p",), "b": ("q",), "c": ("r",), "d": ("s",)}
        ring = ("and", ("<", "p", "q"), ("<", "q", "r"), ("<", "r", "s"))
        log = tuple((stream, (at * 7 % 200,)) for at in range(50) for stream in "abcd")
        for condition in (("and", ring, ("<", "s", "p")), ("and", ring, ("=", "s", 3))):
            question = Question.of(condition, columns)
            self.assertEqual([rings(question, log), first_ring(question, log)], [False, None])
            self.assertEqual(list(matches(question, log)), [])
        question = Question.of(("and", ring, ("<", 0, "p")), columns)
        self.assertEqual(first_ring(question, log), 19)
        self.assertEqual(next(matches(question, log)), {"a": (3,), "b": (7,), "c": (10,), "d": (14,)})
        pairs = tuple((stream, (at, 99 - at)) for at in range(100) for stream in ("left", "right"))
        self.assertEqual([rings(STAIRS, pairs), first_ring(STAIRS, pairs)], [False, None])
        self.assertEqual(len(list(matches(STAIRS.with_condition(("<", "x", "u")), pairs))), 4950)

    def test_wrong(self):
        start = wrong_start(STAIRS)
        for call, late in ((matches, True), (rings, False), (first_ring, False)):
            check_wrong(self, call, [STAIRS, LOG], [start[0], WRONG_LOG], late)
            expect(self, call, (LESS, LOG), {}, late, InvalidLog, None, LOG)
        right = [STAIRS, "right", (1, 2), {"left": (3, 4)}]
        wrong = [*start, wrong_row(STAIRS, "right"), wrong_rest(STAIRS, "right")]
        check_wrong(self, rest_rings, right, wrong)

    def test_names_that_are_words(self):
        question = Question.of(("<", "x", "u"), {"self": ("x",), "question": ("u",), "stream": ("v",)})
        log = (("self", (1,)), ("question", (2,)), ("stream", (3,)))
        self.assertEqual(list(matches(question, log)), [{"question": (2,), "self": (1,), "stream": (3,)}])
        self.assertIs(rest_rings(question, "question", (2,), {"self": (2,), "stream": (0,)}), False)
        for value in no_streams(question)[:9]:
            with self.assertRaises(KeyError):
                is_row(question, value, (1,))


class Generator(unittest.TestCase):
    def test_in_part_and_two_at_a_time(self):
        log = tuple((stream, (at, at % 4)) for at in range(9) for stream in ("left", "right"))
        question = STAIRS.with_condition(("or", ("<", "x", "u"), ("=", "y", "v")))
        whole = list(matches(question, log))
        self.assertGreater(len(whole), 20)
        one, other = matches(question, log), matches(question, log)
        self.assertEqual(list(itertools.islice(one, 5)), whole[:5])
        self.assertEqual(list(zip(one, other)), list(zip(whole[5:], whole)))
        self.assertEqual(list(matches(question, log)), whole)

    def test_dicts_are_free(self):
        log = LOG + LOG
        whole = list(matches(STAIRS, log))
        seen = []
        for match in matches(STAIRS, log):
            seen.append(dict(match))
            match.clear()
        self.assertEqual(seen, whole)


class Unchanged(unittest.TestCase):
    def test_rest_stays(self):
        question = Question(("always",), b=("x",), a=("y",), c=("u",))
        rest = {"c": (4,), "a": (2,)}
        rest_rings(question, "b", (1,), rest)
        entries_of(question, "b", rest)
        self.assertEqual(list(rest.items()), [("c", (4,)), ("a", (2,))])
        self.assertTrue(len(no_rests(question, "b")) > 20 and len(NO_QUESTIONS) > 20)


if __name__ == "__main__":
    unittest.main()
