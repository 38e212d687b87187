"""[0.16] and [0.17] over the whole program: all parts of one question tell the same, whatever its names and orders are."""
import random
import unittest

from needrows.ask.logs import first_ring, matches, rings
from needrows.ask.questions import Question
from needrows.base.conditions import mirrored, renamed_by
from needrows.cover.regions import is_covered, least_cover
from needrows.cover.tight import is_tight, tight_parts
from needrows.few.needs import any_need
from needrows.few.papers import is_few, needy_streams, question_paper
from needrows.few.pasts import Past
from needrows.keep.counts import Counter, count, count_paper
from needrows.keep.keepers import Keeper
from needrows.keep.states import State, are_alike, lean, parting_log, spare_rows
from needrows.rises.kinds import kind_of, kinds
from needrows.text.formats import (
    format_log, format_paper, format_question, format_state, parse_paper, parse_question, parse_state)
from needrows.text.shell import Shell
from tests.asked import LESS, SHAPES, STAIRS, UNLIKE, WITHIN, many_asked
from tests.rising import FALL, SIDE

PIECES = ((0, 6), (0, 10), (4, 10))


def random_log(source, asked, many, low=-1, high=5):
    streams = source.choices(sorted(asked.streams), k=many)
    return tuple((stream, asked.random_row(source, stream, low, high)) for stream in streams)


class Everything:
    """All parts of the program that can keep a log, each with what tells whether another log rings behind it."""

    def __init__(self, question, log):
        keeper, counter, shell = Keeper.of_log(question, log), Counter(question), Shell()
        counter.put_all(log)
        shell.run("open k " + format_question(question))
        shell.run("put k " + format_log(question, log))
        half = len(log) // 2
        joined = Keeper.of_log(question, log[:half]).joined(Keeper.of_log(question, log[half:]))
        state = State.of(question, {}).with_log(log)
        undone = keeper.twin()
        undone.put_all(log[:2])
        undone.undo(many=len(log[:2]))
        read = parse_state(question, shell.run("held k"))
        self.told = {
            "log": lambda later: rings(question, log + later),
            "matches": lambda later: bool(list(matches(question, log + later))),
            "first": lambda later: first_ring(question, log + later) is not None,
            "count": lambda later: count(question, log + later) > 0,
            "keeper": keeper.would_ring,
            "put": lambda later: keeper.during(lambda one: one.put_all(later)),
            "joined": joined.would_ring,
            "undone": undone.would_ring,
            "continued": Keeper.of_state(keeper.checkpoint()).would_ring,
            "state": state.rings,
            "checkpoint": keeper.checkpoint().rings,
            "joint": (State.of(question, {}).with_log(log[:half]) | State.of(question, {}).with_log(log[half:])).rings,
            "read": read.rings,
            "counter": lambda later: counter.total_with(later) > 0,
            "shell": lambda later: shell.run("would k " + format_log(question, later)) == "rung",
            "replayed": lambda later: Shell.of_log(shell.log).twin_of("k").would_ring(later),
        }
        self.lean = lean(keeper.checkpoint()).rings if len(keeper) <= 6 else None


class Together(unittest.TestCase):
    def test_all_tell_the_same(self):
        source = random.Random(801)
        for asked in many_asked(802, 54, SHAPES, 4):
            log = random_log(source, asked, source.randrange(8))
            every = Everything(asked.question, log)
            for many in (0, 1, 2, 3, len(asked.streams) - 1):
                later = random_log(source, asked, many)
                told = {name: call(later) for name, call in every.told.items()}
                self.assertEqual(set(told.values()), {rings(asked.question, log + later)}, told)
                if every.lean and many < len(asked.streams):
                    self.assertIs(every.lean(later), told["log"])

    def test_read_out_of_everything(self):
        source = random.Random(803)
        done = 0
        for asked in many_asked(804, 220, SHAPES, 4):
            for stream in asked.streams:
                need = any_need(asked.question, stream)
                if need is None:
                    continue
                done += 1
                past = Past.of_need(asked.question, stream, need, 4)
                number = source.randrange(16)
                log = list(past.write(number)) * 2
                source.shuffle(log)
                every = Everything(asked.question, tuple(log))
                for name, call in every.told.items():
                    self.assertEqual(past.read_number(call), number, name)
                    self.assertIsNone(past.wrong_at(number, call), name)
                # No row of a past can be forgotten: each of them parts the states.
                state = State.of(asked.question, {}).with_log(past.write(number))
                self.assertEqual(spare_rows(state), ())
                for entry in past.write(number) if len(state) <= 3 else ():
                    self.assertIsNotNone(parting_log(state, state.without(*entry)))
        self.assertGreater(done, 30)

    def test_count_of_matches(self):
        source = random.Random(805)
        for asked in many_asked(806, 54, SHAPES, 3):
            log = tuple(dict.fromkeys(random_log(source, asked, 6, 0, 4)))
            counter = Counter(asked.question)
            counter.put_all(log)
            many = len(list(matches(asked.question, log)))
            self.assertEqual([counter.total(), count(asked.question, log)], [many, many])
            self.assertIs(rings(asked.question, log), many > 0)

    def test_papers_through_texts(self):
        for asked in many_asked(807, 36, SHAPES, 4):
            question = parse_question(format_question(asked.question))
            for stream, paper in question_paper(question).items():
                self.assertEqual(parse_paper(question, stream, format_paper(question, stream, paper)), paper)


class Changed:
    """A question under other names, with the columns of its streams in other orders, or mirrored; and its entries."""

    def __init__(self, asked, source):
        streams = dict(zip(asked.streams, source.sample(("zz", "k", "self", "question", "b"), len(asked.streams))))
        columns = dict(zip(asked.columns, source.sample(("d", "c", "zz", "not", "x"), len(asked.columns))))
        self.turn, self.mirror = source.randrange(2), source.randrange(2)
        self.streams = streams
        condition = renamed_by(asked.condition, {old: columns[old] for old in columns if old in used(asked.condition)})
        if self.mirror:
            condition = mirrored(condition)
        table = {}
        for stream, some in asked.streams.items():
            new = tuple(columns[column] for column in some)
            table[streams[stream]] = new[::-1] if self.turn else new
        self.question = Question.of(condition, table)

    def row(self, row):
        row = tuple(3 - number for number in row) if self.mirror else row
        return row[::-1] if self.turn else row

    def log(self, log):
        return tuple((self.streams[stream], self.row(row)) for stream, row in log)


def used(condition):
    return {one for part in condition[1:] for one in (used(part) if isinstance(part, tuple) else [part])}


class OtherNames(unittest.TestCase):
    def test_everything_stays(self):
        source = random.Random(808)
        for asked in many_asked(809, 72, SHAPES, 4):
            question, other = asked.question, Changed(asked, source)
            self.assertEqual(set(needy_streams(other.question)), {other.streams[stream] for stream in needy_streams(question)})
            for stream, name in other.streams.items():
                one, two = count_paper(question, stream), count_paper(other.question, name)
                self.assertEqual(one[0], two[0])
                self.assertTrue(one[0] == "spread" or len(one[1]) == len(two[1]))
            log, later = random_log(source, asked, 6), random_log(source, asked, 2)
            new, after = other.log(log), other.log(later)
            self.assertEqual(first_ring(other.question, new), first_ring(question, log))
            self.assertEqual(count(other.question, new + after), count(question, log + later))
            self.assertIs(Keeper.of_log(other.question, new).would_ring(after), Keeper.of_log(question, log).would_ring(later))
            state, changed = State.of(question, {}).with_log(log[:5]), State.of(other.question, {}).with_log(new[:5])
            self.assertEqual(set(spare_rows(changed)), set(other.log(spare_rows(state))))
            for stream in question.streams:
                rows = tuple(row for name, row in log if name == stream)
                parts = {frozenset(other.row(row) for row in part) for part in tight_parts(question, stream, rows)}
                turned = tuple(other.row(row) for row in rows)
                self.assertEqual({frozenset(part) for part in tight_parts(other.question, other.streams[stream], turned)}, parts)


class Untrue(unittest.TestCase):
    """[0.17]: for each sentence there is a case in which it is not so."""

    def test_needed_without_a_single_cover(self):
        self.assertEqual([is_covered(WITHIN, "pair", (1, 9), by=(one,)) for one in ((0, 6), (4, 10))], [False, False])
        self.assertIs(is_covered(WITHIN, "pair", (1, 9), by=((0, 6), (4, 10))), True)

    def test_covered_by_two(self):
        question = Question(("and", ("!=", "x", "u"), ("!=", "x", "v")), left=("x",), right=("u", "v"))
        self.assertEqual(len(least_cover(question, "left", (1,), by=((2,), (3,), (4,)))), 3)

    def test_tight_parts_of_equal_length(self):
        self.assertEqual([len(part) for part in tight_parts(WITHIN, "pair", PIECES)], [2, 1])

    def test_fewer_comparisons_and_fewer_rows(self):
        narrow = STAIRS.with_condition(("and", *STAIRS.condition[1:], ("=", "x", 1), ("=", "y", 1)))
        self.assertEqual([is_few(narrow, "left"), is_few(STAIRS, "left")], [True, False])

    def test_conditions_of_an_and(self):
        one, other = (STAIRS.with_condition(part) for part in STAIRS.condition[1:])
        self.assertEqual([needy_streams(one), needy_streams(other), needy_streams(one & other)], [(), (), ("left", "right")])

    def test_kinds_of_equal_conditions(self):
        other = LESS.with_condition(("and", LESS.condition, ("or", ("<", "x", 1), ("<=", 1, "x"))))
        self.assertNotEqual(list(kinds(LESS, "left")), list(kinds(other, "left")))

    def test_a_reason_in_every_state(self):
        question = Question(("!=", "a", "b"), p=("a",), q=("b",), r=("c",))
        state = State(question, p=((1,),), q=((5,), (9,)))
        self.assertIs(is_tight(question, "q", state.held("q")), True)
        self.assertEqual(spare_rows(state), (("q", (5,)), ("q", (9,))))

    def test_alike_states_with_as_many_rows(self):
        one, other = State(WITHIN, pair=PIECES[1:2]), State(WITHIN, pair=PIECES[::2])
        self.assertEqual([are_alike(one, other), len(one), len(other)], [True, 1, 2])

    def test_few_classes_for_few_rows(self):
        for question in (LESS, UNLIKE):
            self.assertEqual([is_few(question, "left"), count_paper(question, "left")[0]], [True, "spread"])

    def test_covered_in_one_rise(self):
        rows = ((0, 9), (10, 11), (20, 29))
        self.assertEqual(kind_of(WITHIN, "pair", rows), SIDE)
        self.assertIs(is_covered(WITHIN, "pair", rows[1]), True)
        self.assertIs(is_covered(WITHIN, "pair", (8, 12), by=((0, 4), (16, 20))), False)
        self.assertIs(FALL in list(kinds(STAIRS, "left")), True)

    def test_texts_of_states(self):
        self.assertEqual(format_state(Keeper.of_log(LESS, (("left", (5,)), ("left", (2,)))).checkpoint()), "left: 2; right: -")


if __name__ == "__main__":
    unittest.main()
