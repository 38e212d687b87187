"""[0.15], [0.16], [11.1], [11.2] and what the document says of needrows.few.forget."""
import itertools
import random
import unittest

from needrows.ask.questions import Question
from needrows.cover.regions import is_covered
from needrows.errors import InvalidNumber, InvalidOperation
from needrows.few.forget import cover_of, forgotten, is_rule, least_rules, rule_of, rules
from needrows.few.needs import ringing
from needrows.rises.kinds import kinds
from needrows.rises.standard import standard_rise
from tests.asked import (
    DEEP, EVERY, LESS, STAIRS, UNLIKE, WIDE, WITHIN, check_wrong, expect, wrong_rows, wrong_start)
from tests.helpers import FAR, is_whole
from tests.rising import FALL, SIDE, UP, WRONG_KIND, no_kinds, rise_in, scenes

RULE = ("rule", UP, 1, 1)
ROWS = ((2,), (3,), (70,))
NO_RULES = tuple(EVERY) + (
    ("rule", UP, 0, 0), ("rule", UP, 1, 3), ("rule", UP, 3, 1), ("rule", UP, 1, -1), ("rule", UP, True, 1),
    ("rule", UP, 1, True), ("rule", UP, 1, None), ("rule", UP, "1", 1), ("rule", UP, 1), ("rule", UP, 1, 1, 1),
    ["rule", UP, 1, 1], ("Rule", UP, 1, 1), ("need", UP, 1, 1), (UP, "rule", 1, 1), ("rule", SIDE, 1, 1), ("rule", (), 1, 1),
    ("rule", 1, 1, UP), ("rule", UP, (1,), 1), ("rule", UP, FAR, FAR), (None, UP, 1, 1), RULE[:1], (RULE,), (LESS, UP, 1, 1))
WRONG_RULE = (NO_RULES, InvalidOperation, None)
WRONG_INDEX = (tuple(value for value in EVERY if not is_whole(value)) + (3, -1, FAR), InvalidNumber, "value")


def rule_in(asked, stream, kind, front, behind):
    """Whether a rule holds by the definition, with all rests near the standard rise."""
    rows = standard_rise(asked.question, stream, kind, front + 1 + behind)
    regions = asked.regions(stream, rows)
    return regions[rows[front]] <= set().union(*(regions[row] for row in rows if row != rows[front]))


class Rules(unittest.TestCase):
    def test_against_definition(self):
        for asked, stream, some in scenes(101, 54, 2, 2):
            most = asked.many_of_rest(stream) + 1
            for kind in some:
                right = tuple(
                    ("rule", kind, front, behind) for front, behind in itertools.product(range(most + 1), repeat=2)
                    if rule_in(asked, stream, kind, front, behind))
                self.check(asked.question, stream, kind, right, most)

    def test_beside_three_columns(self):
        for asked, stream, some in scenes(102, 36, 1):
            if asked.many_of_rest(stream) == 3:
                for kind in some:
                    found = rules(asked.question, stream, kind)
                    for front, behind in ((0, 0), (1, 0), (0, 1), (1, 1)):
                        told = rule_in(asked, stream, kind, front, behind)
                        self.assertIs(("rule", kind, front, behind) in found, told)
                    self.check(asked.question, stream, kind, found, 4)

    def check(self, question, stream, kind, right, most):
        self.assertEqual(rules(question, stream, kind), right)
        self.assertEqual(least_rules(question, stream, kind), tuple(
            one for one in right if not any(
                other != one and other[2] <= one[2] and other[3] <= one[3] for other in right)))
        self.assertTrue(rule_of(question, stream, kind) in right if right else rule_of(question, stream, kind) is None)
        for front, behind in itertools.product(range(-1, most + 2), repeat=2):
            value = ("rule", kind, front, behind)
            self.assertIs(is_rule(question, stream, value), value in right)

    def test_by_the_long_rise(self):
        """[11.1]: the same rules by the nearest rows of each rest that rings."""
        for asked, stream, some in scenes(103, 45, 2):
            most = asked.many_of_rest(stream) + 1
            for kind in some:
                near = {(front or 99, behind or 99) for _, front, behind in ringing(asked.question, stream, kind)}
                right = tuple(
                    ("rule", kind, *pair) for pair in itertools.product(range(most + 1), repeat=2)
                    if all(front <= pair[0] or behind <= pair[1] for front, behind in near))
                self.assertEqual(rules(asked.question, stream, kind), right)

    def test_examples(self):
        pairs = [(front, behind) for front in range(3) for behind in range(3)]
        self.assertEqual([one[2:] for one in rules(LESS, "left", UP)], [pair for pair in pairs if pair[0]])
        self.assertEqual([one[2:] for one in rules(UNLIKE, "left", UP)], [pair for pair in pairs if sum(pair) > 1])
        never = LESS.with_condition(("never",))
        self.assertEqual([one[2:] for one in rules(never, "left", UP)], pairs)
        self.assertEqual([one[2:] for one in least_rules(never, "left", UP)], [(0, 0)])
        self.assertEqual([rules(STAIRS, "left", FALL), least_rules(STAIRS, "left", FALL)], [(), ()])
        self.assertIsNone(rule_of(STAIRS, "left", FALL))
        always = Question(("always",), left=("x",), right=("u",))
        self.assertEqual([one[2:] for one in least_rules(always, "left", UP)], [(0, 1), (1, 0)])

    def test_no_rules(self):
        for value in NO_RULES:
            self.assertIs(is_rule(UNLIKE, "left", value), False, value)
        self.assertIs(is_rule(UNLIKE, "left", RULE), True)
        for value in no_kinds(FALL):
            self.assertIs(is_rule(STAIRS, "left", ("rule", value, 3, 3)), False, value)
        climb = ((), (), (("up", (("x",),)), ("up", (("y",),))))
        self.assertIs(is_rule(STAIRS, "left", ("rule", climb, 1, 0)), True)
        never = STAIRS.with_condition(("never",))
        for front, behind in itertools.product(range(-1, 5), repeat=2):
            right = 0 <= front <= 3 and 0 <= behind <= 3
            self.assertIs(is_rule(never, "left", ("rule", FALL, front, behind)), right)


class Covers(unittest.TestCase):
    def test_each_rise(self):
        """[0.16] and [11.2]: what a rule says of the rows of any rise of its kind."""
        source = random.Random(104)
        for asked, stream, _ in scenes(105, 36, 1, 2):
            columns = asked.streams[stream]
            every = list(kinds(asked.question, stream))
            for kind in every[::max(1, len(every) // 3)]:
                found = least_rules(asked.question, stream, kind)
                if found:
                    rule = source.choice(found)
                    many = rule[2] + rule[3] + 3
                    rows = standard_rise(asked.question, stream, kind, 2 * many)
                    some = tuple(sorted(source.sample(rows, many), key=rows.index))
                    self.assertTrue(rise_in(columns, asked.points, kind, some))
                    self.check(asked.question, stream, rule, some)

    def check(self, question, stream, rule, rows):
        _, _, front, behind = rule
        right = tuple(range(front, len(rows) - behind))
        self.assertEqual(forgotten(question, stream, rule, rows), right)
        for index in range(len(rows)):
            if index in right:
                cover = cover_of(question, stream, rule, rows, index)
                self.assertEqual(cover, rows[index - front:index] + rows[index + 1:index + 1 + behind])
                self.assertIs(is_covered(question, stream, rows[index], by=cover), True)
            else:
                expect(self, cover_of, (question, stream, rule, rows, index), {}, False, InvalidOperation, None, index)

    def test_close_rows(self):
        rows = tuple((number,) for number in (-4, 1, 2, 3, 50))
        self.check(UNLIKE, "left", RULE, rows)
        self.check(UNLIKE, "left", ("rule", UP, 2, 2), rows)
        self.check(UNLIKE, "left", ("rule", UP, 2, 0), rows)
        self.check(LESS, "left", ("rule", UP, 1, 0), ((-FAR,), (0,), (FAR,)))
        self.check(LESS, "right", ("rule", ((), (), (("up", (("u",),)),)), 0, 1), rows)

    def test_bounds(self):
        never = LESS.with_condition(("never",))
        rule = ("rule", UP, 0, 0)
        self.assertEqual(forgotten(never, "left", rule, ROWS), (0, 1, 2))
        self.assertEqual([cover_of(never, "left", rule, ROWS, index) for index in range(3)], [()] * 3)
        self.assertEqual(forgotten(never, "left", rule, ((5,),)), (0,))
        self.assertEqual(forgotten(UNLIKE, "left", ("rule", UP, 2, 2), ROWS), ())
        self.assertEqual(forgotten(UNLIKE, "left", ("rule", UP, 2, 2), ROWS[:1]), ())
        self.assertEqual(forgotten(UNLIKE, "left", RULE, ROWS[:2]), ())


class Greatest(unittest.TestCase):
    def test_each_function(self):
        for question, stream in ((WIDE, "left"), (WIDE, "right"), (DEEP, "one"), (DEEP, "some"), (DEEP, "two")):
            many = 0
            for kind in kinds(question, stream):
                found = rules(question, stream, kind)
                many += len(found)
                self.assertEqual(found[:1], (rule_of(question, stream, kind),) if found else ())
                self.assertLessEqual(set(least_rules(question, stream, kind)), set(found))
                for rule in found[:1] + found[-1:]:
                    self.assertIs(is_rule(question, stream, rule), True)
                    rows = standard_rise(question, stream, kind, 9)
                    for index in forgotten(question, stream, rule, rows):
                        cover_of(question, stream, rule, rows, index)
            self.assertTrue(many or stream in ("one", "two", "some"))


class Wrong(unittest.TestCase):
    def test_one_and_two(self):
        start, rows = wrong_start(UNLIKE), wrong_rows(UNLIKE, "left")
        check_wrong(self, is_rule, [UNLIKE, "left", RULE], [*start, None])
        for call in (rules, least_rules, rule_of):
            check_wrong(self, call, [STAIRS, "left", FALL], [*wrong_start(STAIRS), WRONG_KIND])
        check_wrong(self, forgotten, [UNLIKE, "left", RULE, ROWS], [*start, WRONG_RULE, rows])
        check_wrong(self, cover_of, [UNLIKE, "left", RULE, ROWS, 1], [*start, WRONG_RULE, rows, WRONG_INDEX])

    def test_then(self):
        for rows in (ROWS[::-1], ROWS + ROWS, ((1,), (1,))):
            expect(self, forgotten, (UNLIKE, "left", RULE, rows), {}, False, InvalidOperation, None, rows)
            expect(self, cover_of, (UNLIKE, "left", RULE, rows, 1), {}, False, InvalidOperation, None, rows)
            expect(self, cover_of, (UNLIKE, "left", RULE, rows, len(rows)), {}, False, InvalidNumber, "value", len(rows))
        expect(self, forgotten, (UNLIKE, "left", RULE, ()), {}, False, InvalidOperation, None, ())
        expect(self, cover_of, (UNLIKE, "left", RULE, (), 0), {}, False, InvalidNumber, "value", 0)
        for index in (0, 2):
            expect(self, cover_of, (UNLIKE, "left", RULE, ROWS, index), {}, False, InvalidOperation, None, index)
        self.assertEqual(rules(WITHIN, "pair", SIDE), ())


if __name__ == "__main__":
    unittest.main()
