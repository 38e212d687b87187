"""[0.16], [16.1] to [16.5] and what the document says of needrows.keep.counts."""
import itertools
import random
import unittest

from needrows.ask.questions import Question
from needrows.cover.regions import compared
from needrows.errors import (
    InvalidLog, InvalidNumber, InvalidOperation, InvalidQuestion, InvalidRest, InvalidRow, TooMany, UnknownName)
from needrows.few.needs import needs
from needrows.few.papers import is_few
from needrows.keep.counts import (
    MAX_CLASSES, Counter, count, count_paper, count_past, counts, is_count_paper, is_count_past)
from needrows.rises.kinds import kinds
from needrows.rises.standard import standard_rise
from tests.asked import (
    DEEP, EVERY, LESS, NO_QUESTIONS, SHAPES, STAIRS, UNLIKE, WIDE, WITHIN, check_wrong, expect, flat, many_asked, no_rests,
    no_rows, no_streams, wrong_rows, wrong_start)
from tests.helpers import FAR, is_whole
from tests.rising import FALL, SIDE, UP, clear_in, kinds_in, no_kinds

CAME = (("left", (1,)), ("right", (2,)), ("left", (3,)), ("right", (5,)))
APART = Question(("and", ("<", "x", 2), ("<", 1, "u")), left=("x",), right=("u",))
HALVES = Question(("or", ("<", "x", "y"), ("and", ("<", "y", 1), ("=", "u", 2))), left=("x", "y"), right=("u",))
SPREAD = count_paper(LESS, "left")
NO_LOGS = tuple(value for value in EVERY if value not in ((), (("left", (3,)), ("right", (2,))))) + (
    CAME * 51, list(CAME), (CAME,), (("left", 5),), (("zz", (1,)),), (*CAME, None))


def count_in(asked, log):
    """The count of a log by all choices of entries."""
    picks = [[row for name, row in log if name == stream] for stream in asked.streams]
    return sum(asked.holds(dict(zip(asked.streams, rows))) for rows in itertools.product(*picks))


def random_log(source, asked, many, low=-2, high=6):
    streams = source.choices(sorted(asked.streams), k=many)
    return tuple((stream, asked.random_row(source, stream, low, high)) for stream in streams)


def spread_in(asked, stream, kind, rest):
    """Whether a kind and a rest are a spread by the definition."""
    three = standard_rise(asked.question, stream, kind, 3)
    told = [asked.rings(stream, row, rest) for row in three]
    columns = asked.streams[stream]
    return len(set(told)) == 2 and all(clear_in(columns, kind, row, flat(rest)) for row in three[::2])


def spreads_in(asked, stream):
    """All spreads with integers near the standard rises."""
    for kind in kinds_in(asked.streams[stream], asked.points):
        for rest in asked.rests(stream, standard_rise(asked.question, stream, kind, 3)):
            if spread_in(asked, stream, kind, rest):
                yield ("spread", kind, rest)


def rows_about(asked, stream):
    """Rows with all orders of their columns and the points."""
    near = range(-2, 6)
    return list(itertools.product(near, repeat=len(asked.streams[stream])))


def classes_in(asked, stream, rows):
    """The classes of some rows by their regions, each as a list of rows."""
    found = {}
    for row, region in asked.regions(stream, rows).items():
        found.setdefault(frozenset(region), []).append(row)
    return list(found.values())


def past_in(asked, stream, rows, rests):
    """Whether each two different sets of rows have unlike counts, by the definition."""
    told = [[asked.rings(stream, row, rest) for row in rows] for rest in rests]
    seen = set()
    for chosen in itertools.product((0, 1), repeat=len(rows)):
        seen.add(tuple(sum(one and ringing for one, ringing in zip(chosen, line)) for line in told))
    return len(seen) == 2 ** len(rows)


class Counts(unittest.TestCase):
    def test_against_all_choices(self):
        source = random.Random(501)
        for asked in many_asked(502, 120, SHAPES, 4):
            log = random_log(source, asked, source.randrange(13), 0, 4)
            log += log[:source.randrange(4)] * source.randrange(3)
            self.assertEqual(count(asked.question, log), count_in(asked, log))
            turned = list(log)
            source.shuffle(turned)
            self.assertEqual(count(asked.question, tuple(turned)), count_in(asked, log))

    def test_three_and_four_streams(self):
        source = random.Random(516)
        many = 0
        for asked in many_asked(517, 60, ((1, 1, 1, 1), (1, 1, 1), (1, 2, 1), (1, 1, 1, 1)), 4):
            log = random_log(source, asked, 13, 0, 4) + random_log(source, asked, 3, 2, 3)
            right = count_in(asked, log)
            many += right > 0
            self.assertEqual(count(asked.question, log), right)
            counter = Counter(asked.question)
            counter.put_all(log[:8])
            self.assertEqual(counter.total_with(log[8:]), right)
        self.assertGreater(many, 30)

    def test_edges(self):
        self.assertEqual([count(LESS, ()), count(LESS, CAME[:1]), count(LESS, CAME[::2]), count(LESS, CAME[:2])], [0, 0, 0, 1])
        self.assertEqual([count(LESS, CAME[:2] * many) for many in range(5)], [0, 1, 4, 9, 16])
        self.assertEqual(count(LESS, CAME[:2] * 100), 10000)
        always = LESS.with_condition(("always",))
        self.assertEqual([count(always, CAME * 50), count(always.with_condition(("never",)), CAME)], [10000, 0])

    def test_counts(self):
        source = random.Random(503)
        for asked in many_asked(504, 90):
            for stream in asked.streams:
                rows = asked.random_rows(source, stream, source.randrange(7), 0, 3)
                rests = tuple({other: asked.random_row(source, other) for other in asked.others(stream)} for _ in range(4))
                right = tuple(sum(asked.rings(stream, row, rest) for row in rows) for rest in rests)
                self.assertEqual(counts(asked.question, stream, rows, rests), right)
                self.assertEqual(counts(asked.question, stream, rows * 2, rests[:1]), tuple(2 * one for one in right[:1]))
        self.assertEqual([counts(LESS, "left", (), ()), counts(LESS, "left", ((1,),), ())], [(), ()])
        self.assertEqual(counts(LESS, "left", (), ({"right": (5,)},)), (0,))


class Papers(unittest.TestCase):
    def test_against_definition(self):
        forms = []
        for asked in (*many_asked(505, 36, SHAPES, 3), *many_asked(506, 36, ((1, 1), (2, 1), (1, 1, 1)), 2)):
            for stream in asked.streams:
                spread = next(spreads_in(asked, stream), None)
                paper = count_paper(asked.question, stream)
                self.assertIs(is_count_paper(asked.question, stream, paper), True)
                forms.append(paper[0])
                if spread:
                    self.assertEqual(paper[0], "spread")
                    self.assertTrue(spread_in(asked, stream, paper[1], paper[2]))
                    self.assertIs(is_count_paper(asked.question, stream, spread), True)
                else:
                    self.assertEqual(paper[0], "even")
                    self.check_even(asked, stream, paper[1])
        self.assertGreater(min(forms.count("even"), forms.count("spread")), 20)

    def check_even(self, asked, stream, rows):
        """[16.3]: rows are exchangeable if their columns compare alike, and there is one of each class."""
        self.assertEqual(list(rows), sorted(set(rows)))
        classes = classes_in(asked, stream, rows_about(asked, stream))
        self.assertEqual(len(classes), len(rows))
        for one in classes:
            self.assertEqual(sum(compared(asked.question, stream, row, one[0]) == "equal" for row in rows), 1)

    def test_even_papers(self):
        source = random.Random(507)
        done = 0
        for asked in many_asked(508, 120, ((1, 1), (2, 1), (1, 2), (1, 1, 1)), 2):
            for stream in asked.streams:
                if count_paper(asked.question, stream)[0] == "spread":
                    continue
                done += 1
                classes = classes_in(asked, stream, rows_about(asked, stream))
                rows = tuple(sorted(source.choice(one) for one in classes))
                self.assertIs(is_count_paper(asked.question, stream, ("even", rows)), True)
                wrong = [rows[:-1], rows[1:], list(rows), (rows,), rows + rows[-1:], rows + ("x",), rows[:-1] + (list(rows[-1]),)]
                wrong += [rows[::-1]] if len(rows) > 1 else []
                wrong += [tuple(sorted({*rows, other})) for one in classes[:3] for other in one[:3] if other not in rows]
                wrong += [rows[:-1] + ((True,) * len(rows[0]),)]
                for value in wrong:
                    self.assertIs(is_count_paper(asked.question, stream, ("even", value)), False, (asked.condition, value))
                exchanged = random.Random(done).choice(classes[0])
                left = tuple(sorted(row for row in rows if row not in classes[0]))
                self.assertIs(is_count_paper(asked.question, stream, ("even", tuple(sorted((*left, exchanged))))), True)
        self.assertGreater(done, 40)

    def test_far_rows(self):
        for rows, right in ((((-7,), (2,)), True), (((1,), (FAR,)), True), (((-FAR,), (1,)), False), (((2,), (FAR,)), False)):
            self.assertIs(is_count_paper(APART, "left", ("even", rows)), right)
        self.assertEqual([len(count_paper(APART, stream)[1]) for stream in ("left", "right")], [2, 2])
        self.assertEqual(count_paper(HALVES, "left")[0], "even")

    def test_spreads(self):
        for asked in many_asked(509, 45):
            for stream in asked.streams:
                for kind in list(kinds(asked.question, stream))[::5]:
                    for need in itertools.islice(needs(asked.question, stream, kind), 2):
                        self.assertIs(is_count_paper(asked.question, stream, ("spread", *need[1:])), True)
                        self.assertIs(is_count_paper(asked.question, stream, need), False)
        # Between two rows the rest is clear of all three; within the first or the last one it is not.
        right = {-1: False, 0: False, 1: True, 4: True, 5: True, 8: False, 9: False}
        for number in right:
            self.assertIs(is_count_paper(LESS, "left", ("spread", UP, {"right": (number,)})), right[number], number)
        for value in no_rests(LESS, "left"):
            self.assertIs(is_count_paper(LESS, "left", ("spread", UP, value)), False, value)
        for value in no_kinds(FALL):
            self.assertIs(is_count_paper(STAIRS, "left", ("spread", value, {"right": (5, 17)})), False, value)
        self.assertIs(is_count_paper(STAIRS, "left", ("spread", FALL, {"right": (5, 17)})), True)

    def test_one_form(self):
        for question in (LESS, UNLIKE, STAIRS, WITHIN):
            for stream in question.streams:
                self.assertEqual(count_paper(question, stream)[0], "spread")
                for rows in ((), ((1,),), ((1, 1),), ((0,), (1,))):
                    self.assertIs(is_count_paper(question, stream, ("even", rows)), False)
        # [0.17]: few rows can be enough for the question, and still there are many classes for counting.
        self.assertIs(is_few(LESS, "left"), True)
        for value in (*EVERY, ("even",), ("even", ((-7,), (2,)), 1), ["even", ((-7,), (2,))], ("Even", ((-7,), (2,))),
                      ("even", {(-7,): 1, (2,): 1}), ("spread", ((-7,), (2,)))):
            self.assertIs(is_count_paper(APART, "left", value), False, value)
            self.assertIs(is_count_paper(LESS, "left", value), False, value)

    def test_equal_conditions(self):
        """[16.3]: a stream has no spread exactly if some equal condition compares it with no other one."""
        hidden = ("or", ("and", ("<", "x", 2), ("<", "x", "u")), ("and", ("<", "x", 2), ("<=", "u", "x")))
        question = LESS.with_condition(hidden)
        self.assertEqual([len(count_paper(question, stream)[1]) for stream in ("left", "right")], [2, 1])
        self.assertEqual(count_paper(LESS.with_condition(hidden[1]), "left")[0], "spread")


class Pasts(unittest.TestCase):
    def test_of_spreads(self):
        """[0.16]: a spread can be continued without end; all six ways in which it can ring occur."""
        seen = set()
        for asked in many_asked(510, 120, SHAPES, 3):
            for stream in asked.streams:
                paper = count_paper(asked.question, stream)
                if paper[0] == "even":
                    continue
                three = standard_rise(asked.question, stream, paper[1], 3)
                seen.add(tuple(asked.rings(stream, row, paper[2]) for row in three))
                for many in (2, 3, 5):
                    rows, rests = past = count_past(asked.question, stream, paper, many)
                    self.assertEqual([len(rows), len(set(rows)), len(rests)], [many, many, many])
                    self.assertTrue(past_in(asked, stream, rows, rests), (asked.condition, paper))
                    self.assertIs(is_count_past(asked.question, stream, past), True)
        for told in itertools.product((True, False), repeat=3):
            self.assertTrue(told in seen or len(set(told)) == 1 or self.found_elsewhere(told), told)

    def found_elsewhere(self, told):
        """Whether the past of a spread that rings in this way is one."""
        parts = [("and", ("<", "x", "u"), ("<", "v", "x")), ("or", ("<", "u", "x"), ("<", "x", "v"))]
        question = Question(parts[sum(told) - 1], left=("x",), right=("u", "v"))
        for numbers in itertools.product(range(-1, 13), repeat=2):
            spread = ("spread", UP, {"right": numbers})
            three = standard_rise(question, "left", UP, 3)
            ringing = tuple(question({"left": row, "right": numbers}) for row in three)
            if ringing == told and is_count_paper(question, "left", spread):
                return all(is_count_past(question, "left", count_past(question, "left", spread, many)) for many in range(2, 9))
        return False

    def test_two_and_eight_rows(self):
        for question, stream in ((LESS, "left"), (UNLIKE, "left"), (WITHIN, "pair"), (WIDE, "left"), (DEEP, "one"), (DEEP, "two")):
            spread = count_paper(question, stream)
            for many in range(2, 9):
                rows, rests = count_past(question, stream, spread, many)
                self.assertEqual([len(rows), is_count_past(question, stream, (rows, rests))], [many, True])
                subsets = [some for size in range(many + 1) for some in itertools.combinations(rows, size)]
                if many < 5:
                    self.assertEqual(len({counts(question, stream, some, rests) for some in subsets}), 2 ** many)

    def test_is_count_past(self):
        source = random.Random(511)
        told = []
        for asked in many_asked(512, 150, ((1, 1), (2, 1), (1, 1, 1))):
            for stream in asked.streams:
                many = source.randrange(4)
                rows = asked.random_rows(source, stream, many, 0, 5)
                rests = tuple({other: asked.random_row(source, other) for other in asked.others(stream)} for _ in rows)
                right = len(set(rows)) == many and past_in(asked, stream, rows, rests)
                told.append(right and many > 0)
                self.assertIs(is_count_past(asked.question, stream, (rows, rests)), right)
        self.assertGreater(min(told.count(True), told.count(False)), 15)

    def test_rests_that_ring_with_rows_side_by_side(self):
        question = Question(("and", ("<=", "u", "x"), ("<=", "x", "v")), left=("x",), right=("u", "v"))
        source = random.Random(518)
        told = []
        for _ in range(400):
            many = source.randrange(3, 9)
            rows = tuple((number,) for number in range(many))
            rests = [(source.randrange(many), source.randrange(many)) for _ in rows]
            rests = rests if source.randrange(2) else [(0, number) for number in range(many)]
            if source.randrange(2):
                rests[source.randrange(many)] = (0, many)
            lines = [[low <= number <= high for number in range(many)] for low, high in rests]
            seen = {tuple(sum(one and ringing for one, ringing in zip(chosen, line)) for line in lines)
                    for chosen in itertools.product((0, 1), repeat=many)}
            told.append(len(seen) == 2 ** many)
            past = (rows, tuple({"right": rest} for rest in rests))
            self.assertIs(is_count_past(question, "left", past), told[-1])
        self.assertGreater(min(told.count(True), told.count(False)), 60)

    def test_no_pasts(self):
        rows, rests = past = count_past(LESS, "left", SPREAD, 8)
        self.assertIs(is_count_past(LESS, "left", past), True)
        self.assertIs(is_count_past(LESS, "left", ((), ())), True)
        nine = ((*rows, (rows[-1][0] + 100,)), (*rests, {"right": (rows[-1][0] + 101,)}))
        for value in (
                *EVERY, nine, list(past), (list(rows), rests), (rows, list(rests)), (rows, rests, ()), (rows,), (rests, rows),
                (rows, rests[:7]), (rows[:7], rests), (rows[:7] + rows[:1], rests), (rows, rests[:7] + rests[:1]),
                (rows, rests[:7] + (None,)), (rows[:7] + ((1, 2),), rests), ([], ()), ((), []), ((), ((),)), (None, None)):
            self.assertIs(is_count_past(LESS, "left", value), False, value)
        for value in no_rows(1):
            self.assertIs(is_count_past(LESS, "left", ((value,), rests[:1])), False, value)
        for value in no_rests(LESS, "left"):
            self.assertIs(is_count_past(LESS, "left", (rows[:1], (value,))), False, value)


class Model:
    """What a counter holds by the definition: classes by regions near all rows that came."""

    def __init__(self, asked):
        self.asked = asked
        self.came = []

    def classes(self, stream):
        rows = [row for name, row in self.came if name == stream]
        regions = self.asked.regions(stream, set(rows)) if rows else {}
        found = {}
        for row in rows:
            found.setdefault(frozenset(regions[row]), []).append(row)
        return tuple((same[0], len(same)) for same in found.values())


class Counters(unittest.TestCase):
    def check(self, counter, model):
        classes = {stream: model.classes(stream) for stream in model.asked.streams}
        for stream in classes:
            self.assertEqual(counter.classes(stream), classes[stream])
        self.assertEqual([counter.came, counter.total()], [len(model.came), count_in(model.asked, model.came)])
        self.assertEqual([len(counter), str(counter)], [sum(map(len, classes.values())), f"counter of {len(model.came)} entries"])

    def test_histories(self):
        source = random.Random(513)
        for asked in many_asked(514, 72, SHAPES, 3):
            counter, model = Counter(asked.question), Model(asked)
            self.check(counter, model)
            for _ in range(5):
                log = random_log(source, asked, source.randrange(4), 0, 5)
                if source.randrange(2):
                    self.assertIsNone(counter.put_all(log))
                else:
                    for stream, row in log:
                        self.assertIsNone(counter.put(stream, row))
                model.came += log
                self.check(counter, model)
                later = random_log(source, asked, 3, 0, 5)
                self.assertEqual(counter.total_with(later), count_in(asked, (*model.came, *later)))
                self.assertEqual(counter.came, len(model.came))
                other = Counter(asked.question)
                other.put_all(later)
                both, joint = counter.joined(other), Model(asked)
                joint.came = [*model.came, *later]
                self.check(both, joint)
                turned = other.joined(counter)
                joint.came = [*later, *model.came]
                self.check(turned, joint)

    def test_twins(self):
        counter = Counter(APART)
        counter.put_all(CAME)
        twin = counter.twin()
        self.assertEqual(twin, counter)
        twin.put("left", (0,))
        self.assertEqual([counter.came, counter.total(), twin.came, twin.total()], [4, 2, 5, 4])
        counter.put("right", (0,))
        self.assertEqual([len(counter.classes("right")), len(twin.classes("right"))], [2, 1])
        itself = twin.joined(twin)
        self.assertEqual([itself.came, itself.total(), twin.came], [10, 16, 5])

    def test_twelve_classes_and_thirteen(self):
        self.assertEqual(MAX_CLASSES, 12)
        rows = tuple((number,) for number in range(13))
        counter = Counter(LESS)
        counter.put_all(tuple(("left", row) for row in rows[:12]) + CAME[:2])
        before = counter.twin()
        expect(self, counter.put, ("left", (12,)), {}, False, TooMany, "limit", 12)
        for log in ((("left", (12,)),), (("right", (1,)), ("left", (3,)), ("left", (12,)), ("right", (2,)))):
            expect(self, counter.put_all, (log,), {}, False, TooMany, "limit", 12)
            self.assertEqual([counter, counter.came], [before, 14])
        self.assertEqual(counter.total_with((("left", (12,)), ("right", (40,)))), 3 + 14)
        other = Counter(LESS)
        other.put("left", (13,))
        expect(self, counter.joined, (other,), {}, False, TooMany, "limit", 12)
        expect(self, other.joined, (counter,), {}, False, TooMany, "limit", 12)
        self.assertEqual(len(counter.joined(counter).classes("left")), 12)
        counter.put("left", (11,))
        self.assertEqual(counter.classes("left")[11], ((11,), 2))
        log = tuple(("left", (number,)) for number in range(100)) + tuple(("right", (number,)) for number in range(100))
        self.assertEqual(Counter(LESS).total_with(log), 4950)

    def test_many_entries(self):
        counter = Counter(APART)
        for many in range(1, 30):
            counter.put_all((("left", (1,)), ("right", (2,)), ("right", (0,))) * 50)
            self.assertEqual([counter.total(), counter.came], [(50 * many) ** 2, 150 * many])
        self.assertEqual(counter.classes("right"), (((2,), 1450), ((0,), 1450)))

    def test_equal_and_text(self):
        counter = Counter(LESS)
        self.assertEqual([counter.question, counter.came, counter.total(), len(counter), str(counter), counter.classes("left")],
                         [LESS, 0, 0, 0, "counter of 0 entries", ()])
        counter.put_all(CAME)
        same = Counter(LESS)
        same.put_all(CAME[2:] + CAME[:2])
        self.assertNotEqual(same, counter)
        again = Counter(LESS)
        again.put_all((CAME[1], CAME[0], CAME[3], CAME[2]))
        self.assertEqual(again, counter)
        for value in (*EVERY, Counter(LESS), Counter(UNLIKE), CAME, counter.total()):
            self.assertFalse(counter == value)
            self.assertTrue(counter != value)
        self.assertNotEqual(Counter(UNLIKE), Counter(LESS))

    def test_greatest(self):
        four = Question(("or", ("and", ("<", "a", "b"), ("<", "b", "c"), ("<", "c", "d"), ("!=", "a", 0)),
                         ("and", ("=", "a", "d"), ("<", "b", 3), ("!=", "c", "a"), ("<=", 1, "c"))), p=("a",), q=("b",), r=("c",), s=("d",))
        source = random.Random(515)
        for question in (four, WIDE, DEEP):
            log = []
            for at in range(200):
                stream = question.streams[at % len(question.streams)]
                log.append((stream, tuple(source.randrange(-60, 60) for _ in question.columns_of(stream))))
            counter = Counter(question)
            for stream, row in log:
                try:
                    counter.put(stream, row)
                except TooMany as error:
                    self.assertEqual(error.limit, 12)
            self.assertGreater(max(len(counter.classes(stream)) for stream in question.streams), 9)
            before = counter.total()
            self.assertGreaterEqual(counter.total_with(tuple(log)), before + count(question, tuple(log)))
            counter.joined(counter)
            for stream in question.streams:
                paper = count_paper(question, stream)
                self.assertIs(is_count_paper(question, stream, paper), True)
                rests = tuple({other: (7,) * len(question.columns_of(other)) for other in question.others(stream)} for _ in range(50))
                counts(question, stream, tuple(row for name, row in log if name == stream), rests)


class Wrong(unittest.TestCase):
    def test_one_and_two(self):
        start, rows = wrong_start(LESS), wrong_rows(LESS, "left")
        questions, no_logs = (NO_QUESTIONS, InvalidQuestion, None), (NO_LOGS, InvalidLog, None)
        check_wrong(self, count, [LESS, CAME], [questions, no_logs])
        rests = ({"right": (5,)},)
        no_tuples = tuple(value for value in EVERY if value != ()) + (list(rests), rests[0]) + tuple(
            (*rests, value) for value in no_rests(LESS, "left"))
        check_wrong(self, counts, [LESS, "left", ((1,), (1,)), rests], [*start, rows, (no_tuples, InvalidRest, None)])
        check_wrong(self, count_paper, [LESS, "left"], start)
        for call in (is_count_paper, is_count_past):
            check_wrong(self, call, [LESS, "left", None], [*start, None])
        no_spreads = tuple(EVERY) + (("spread", UP, {"right": (0,)}), ("need", *SPREAD[1:]), list(SPREAD), SPREAD[:2], ("even", ()))
        no_many = tuple(value for value in EVERY if not (is_whole(value) and 2 <= value <= 8)) + (9, 1, 0, -2)
        check_wrong(
            self, count_past, [LESS, "left", SPREAD, 3],
            [*start, (no_spreads, InvalidOperation, None), (no_many, InvalidNumber, "value")])
        self.assertIs(is_count_paper(WITHIN, "pair", ("spread", SIDE, {"probe": (10,)})), True)

    def test_counters(self):
        for value in NO_QUESTIONS:
            expect(self, Counter, (value,), {}, False, InvalidQuestion, None, value)
        counter = Counter(LESS)
        counter.put_all(CAME)
        before = counter.twin()
        streams, rows = (no_streams(LESS), UnknownName, "name"), (no_rows(1), InvalidRow, None)
        check_wrong(self, counter.put, ["left", (2,)], [streams, rows])
        counter = before.twin()
        for value in no_streams(LESS):
            expect(self, counter.classes, (value,), {}, False, UnknownName, "name", value)
        for value in NO_LOGS:
            for call in (counter.put_all, counter.total_with):
                expect(self, call, (value,), {}, False, InvalidLog, None, value)
        for value in (*EVERY, Counter(UNLIKE), Counter, CAME):
            expect(self, counter.joined, (value,), {}, False, InvalidOperation, None, value)
        self.assertEqual([counter, counter.came], [before, 4])


if __name__ == "__main__":
    unittest.main()
