"""[0.13], [0.14], [8.1] to [8.3] and what the document says of needrows.rises.kinds."""
import itertools
import random
import unittest

from needrows.ask.questions import Question
from needrows.base.reasoning import are_equal
from needrows.errors import InvalidOperation
from needrows.rises.kinds import (
    are_uniform, is_kind, is_rise, kind_of, kinds, moving_columns, number_of_kinds, rise_of)
from needrows.rises.standard import standard_rise
from tests.asked import (
    DEEP, EVERY, LESS, NO_QUESTIONS, STAIRS, WIDE, WITHIN, check_wrong, expect, many_asked, no_rows, no_tuples_of_rows,
    wrong_rows, wrong_start)
from tests.helpers import FAR
from tests.rising import FALL, SIDE, UP, WRONG_KIND, kinds_in, no_kinds, rise_in, scenes, uniform_in

X, Y = (("x",),), (("y",),)
STEPS = ((0, 20), (4, 16), (8, 12))


def asking(columns, points):
    """A question whose first stream has these columns, and which has these points."""
    parts = [("=", columns[0], point) for point in points] or [("always",)]
    condition = parts[0] if len(parts) == 1 else ("or", *parts)
    return Question(condition, first=columns, second=("zz",))


CASES = [
    (asking(columns, points), columns, points)
    for columns in (("x",), ("x", "y"), ("price", "cost"))
    for points in ((), (0,), (3,), (1, 2), (0, 1, 2), (0, 1, 2, 3))]


class Kinds(unittest.TestCase):
    def test_all(self):
        for question, columns, points in CASES:
            self.assertEqual(question.points, points)
            right = kinds_in(columns, points)
            self.assertEqual(list(kinds(question, "first")), right)
            self.assertEqual(number_of_kinds(question, "first"), len(right))
            many = (2 if points else 1) if len(columns) == 1 else 4 * len(points) + 30 if points else 11
            self.assertEqual(len(right), many)
            for kind in right:
                self.assertIs(is_kind(question, "first", kind), True)

    def test_points_between(self):
        question = Question(("and", ("<", "x", 3), ("<", 0, "u")), left=("x", "y"), right=("u",))
        self.assertEqual([number_of_kinds(question, "left"), number_of_kinds(question, "right")], [46, 2])
        self.assertIs(is_kind(question, "left", ((), (("x", 2),), (("up", Y),))), True)
        self.assertIs(is_kind(question, "left", ((), (("x", 4),), (("up", Y),))), False)

    def test_in_part_and_two_at_a_time(self):
        whole = list(kinds(WIDE, "left"))
        one, other = kinds(WIDE, "left"), kinds(WIDE, "left")
        self.assertEqual(list(itertools.islice(one, 7)), whole[:7])
        self.assertEqual(list(zip(one, other)), list(zip(whole[7:], whole)))

    def test_no_kinds(self):
        for value in no_kinds(FALL):
            self.assertIs(is_kind(STAIRS, "left", value), False, value)
        self.assertIs(is_kind(STAIRS, "left", FALL), True)
        self.assertIs(is_kind(STAIRS, "right", FALL), False)
        self.assertEqual([is_kind(LESS, "left", UP), is_kind(LESS, "left", SIDE)], [True, False])

    def test_no_kinds_with_points(self):
        pairs = ((), (("up", Y),))
        for at in ((("x", 2),), (("x", 0),), (("x", 3),)):
            self.assertIs(is_kind(WIDE, "left", (pairs[0], at, pairs[1])), True)
            self.assertIs(is_kind(WIDE, "left", (pairs[1], at, pairs[0])), True)
        for at in (
                (("x", 4),), (("x", -1),), (("x", True),), (("x", False),), (("x", None),), (("x", "0"),), (("x", 2, 2),),
                (("x",),), ("x", 2), (["x", 2],), [("x", 2)], (("z", 2),), ((2, "x"),), (("x", 2), ("x", 2)), ((("x",), 2),),
                (("x", (2,)),), (("x", 1), ("x", 2)), (("y", 1), ("x", 2)), (("x", 1), ("y", 2)), {"x": 2}, "x", None, (None,)):
            self.assertIs(is_kind(WIDE, "left", (pairs[0], at, pairs[1])), False, at)
        for kind in (
                ((("up", X),), (), (("up", X),)), ((), (("x", 1),), (("stay", ("y",)),)), ((), (("x", 1), ("y", 1)), ()),
                ((("down", X),), (), (("up", Y),)), ((("stay", ("x",)),), (), (("down", Y),)), ((), (("x", 1),), (("down", Y),)),
                ((("up", X),), (("x", 1),), (("up", Y),)), ((("stay", ("x",)), ("stay", ("y",))), (), ())):
            self.assertIs(is_kind(WIDE, "left", kind), False, kind)
        for kind in (
                ((("up", X),), (), (("down", Y),)), ((("stay", ("x",)),), (), (("up", Y),)), ((("up", X), ("down", Y)), (), ()),
                ((("up", (("x", "y"),)),), (), ())):
            self.assertIs(is_kind(WIDE, "left", kind), True, kind)

    def test_moving_columns(self):
        for question, columns, points in CASES:
            for kind in kinds(question, "first"):
                still = {one for one, _ in kind[1]}
                still.update(one for item in (*kind[0], *kind[2]) if item[0] == "stay" for one in item[1])
                self.assertEqual(moving_columns(question, "first", kind), tuple(sorted(set(columns) - still)))
        self.assertEqual(moving_columns(STAIRS, "left", FALL), ("x", "y"))
        self.assertEqual(moving_columns(STAIRS, "left", ((), (), (("stay", ("x",)), ("up", Y)))), ("y",))

    def test_streams_that_are_words(self):
        question = Question.of(("<", "x", 1), {"self": ("x",), "stream": ("u", "kind")})
        self.assertEqual([number_of_kinds(question, "self"), number_of_kinds(question, "stream")], [2, 34])
        self.assertEqual(rise_of(question, "self", ((5,), (4,))), (((), (), (("up", X),)), ((4,), (5,))))


class Rises(unittest.TestCase):
    def test_against_definition(self):
        source = random.Random(71)
        for question, columns, points in CASES:
            every = kinds_in(columns, points)
            found = list(itertools.product(range(-2, 6), repeat=len(columns)))
            for many in (1, 2, 3, 4):
                for _ in range(60):
                    self.check(question, columns, points, every, tuple(source.choices(found, k=many)))

    def check(self, question, columns, points, every, rows):
        right = [kind for kind in every if rise_in(columns, points, kind, rows)]
        found = [kind for kind in every if is_rise(question, "first", kind, rows)]
        self.assertEqual(found, right, rows)
        if len(rows) == 1:
            return
        self.assertLessEqual(len(right), 1)
        self.assertEqual(kind_of(question, "first", rows), right[0] if right else None, (rows, points))
        turned = [kind for kind in every if rise_in(columns, points, kind, rows[::-1])]
        told = (right[0], rows) if right else (turned[0], rows[::-1]) if turned else None
        self.assertEqual(rise_of(question, "first", rows), told)

    def test_all_small_rows(self):
        for question, columns, points in CASES[:6]:
            for many in (2, 3):
                for rows in itertools.product([(number,) for number in range(-2, 6)], repeat=many):
                    self.check(question, columns, points, kinds_in(columns, points), rows)
        for question, columns, points in (CASES[6], CASES[8]):
            every = kinds_in(columns, points)
            for rows in itertools.product(itertools.product(range(1, 5), repeat=2), repeat=2):
                self.check(question, columns, points, every, rows)

    def test_every_kind_has_rises(self):
        for question, columns, points in CASES:
            for kind in kinds(question, "first"):
                rows = standard_rise(question, "first", kind, 4)
                self.assertEqual([kind_of(question, "first", rows), rise_of(question, "first", rows)], [kind, (kind, rows)])
                self.assertEqual(rise_of(question, "first", rows[::-1]), (kind, rows))
                self.assertIsNone(kind_of(question, "first", rows[::-1]))
                for some in itertools.chain(itertools.combinations(rows, 2), itertools.combinations(rows, 3)):
                    self.assertEqual(kind_of(question, "first", some), kind)

    def test_single_rows(self):
        point = ((), (("x", 1),), (("up", Y),))
        told = [kind for kind in kinds(WIDE, "left") if is_rise(WIDE, "left", kind, ((1, 9),))]
        self.assertEqual(told, [point])
        several = [kind for kind in kinds(STAIRS, "left") if is_rise(STAIRS, "left", kind, ((1, 9),))]
        self.assertEqual(len(several), 5)
        self.assertEqual([kind for kind in kinds(WIDE, "left") if is_rise(WIDE, "left", kind, ((1, 2),))], [])

    def test_equal_rows_and_none(self):
        for rows in (((1, 2), (1, 2)), ((1, 2), (2, 3), (1, 2)), ((1, 2), (2, 3), (2, 3))):
            self.assertEqual([kind_of(STAIRS, "left", rows), rise_of(STAIRS, "left", rows)], [None, None])
            self.assertIs(are_uniform(STAIRS, "left", rows), False)
            self.assertFalse(any(is_rise(STAIRS, "left", kind, rows) for kind in kinds(STAIRS, "left")))
        self.assertIs(is_rise(STAIRS, "left", FALL, ()), False)

    def test_no_rises(self):
        for value in (*no_tuples_of_rows(2), *EVERY, list(STEPS), STEPS[0], None):
            self.assertIs(is_rise(STAIRS, "left", FALL, value), False, value)
            self.assertIs(are_uniform(STAIRS, "left", value), False, value)
        self.assertIs(is_rise(STAIRS, "left", FALL, STEPS), True)
        self.assertIs(is_rise(STAIRS, "left", FALL, ((-FAR, FAR + 2), (0, FAR + 1))), True)


class Uniform(unittest.TestCase):
    def test_against_definition(self):
        source = random.Random(72)
        for question, columns, points in CASES:
            found = list(itertools.product(range(-1, 5), repeat=len(columns)))
            for many in (1, 2, 3, 3, 3, 4):
                for _ in range(50):
                    rows = tuple(source.choices(found, k=many))
                    self.assertIs(are_uniform(question, "first", rows), uniform_in(columns, points, rows), (rows, points))

    def test_all_small_rows(self):
        question, columns, points = CASES[6]
        every = list(itertools.product(range(3), repeat=2))
        for rows in itertools.product(every, repeat=3):
            self.assertIs(are_uniform(question, "first", rows), uniform_in(columns, points, rows), rows)
        for question, columns, points in CASES[:4]:
            for rows in itertools.product([(number,) for number in range(-1, 5)], repeat=3):
                self.assertIs(are_uniform(question, "first", rows), uniform_in(columns, points, rows), rows)

    def test_rises_are_uniform(self):
        for asked, stream, some in scenes(73, 30, 5):
            for kind in some:
                rows = standard_rise(asked.question, stream, kind, 5)
                self.assertIs(are_uniform(asked.question, stream, rows), True)
                self.assertIs(are_uniform(asked.question, stream, rows[::-1]), True)
                self.assertIs(are_uniform(asked.question, stream, rows[:2]), False)
                self.assertIs(are_uniform(asked.question, stream, (*rows, rows[0])), False)


class Untrue(unittest.TestCase):
    def test_equal_conditions_with_other_kinds(self):
        other = LESS.with_condition(("or", ("<", "x", "u"), ("and", ("<", "x", 1), ("<", 0, "x"))))
        self.assertIs(are_equal(LESS.condition, other.condition), True)
        self.assertEqual([number_of_kinds(LESS, "left"), number_of_kinds(other, "left")], [1, 2])


class Wrong(unittest.TestCase):
    def test_one_and_two(self):
        start, rows = wrong_start(STAIRS), wrong_rows(STAIRS, "left")
        check_wrong(self, is_kind, [STAIRS, "left", FALL], [*start, None])
        check_wrong(self, kinds, [STAIRS, "left"], start, late=True)
        check_wrong(self, number_of_kinds, [STAIRS, "left"], start)
        check_wrong(self, moving_columns, [STAIRS, "left", FALL], [*start, WRONG_KIND])
        check_wrong(self, is_rise, [STAIRS, "left", FALL, STEPS], [*start, WRONG_KIND, None])
        check_wrong(self, kind_of, [STAIRS, "left", STEPS], [*start, rows])
        check_wrong(self, rise_of, [STAIRS, "left", STEPS], [*start, rows])
        check_wrong(self, are_uniform, [STAIRS, "left", STEPS], [*start, None])

    def test_fewer_than_two_rows(self):
        for call in (kind_of, rise_of):
            for rows in ((), STEPS[:1]):
                expect(self, call, (STAIRS, "left", rows), {}, False, InvalidOperation, None, rows)

    def test_kinds_of_others(self):
        for kind in (UP, SIDE, ((), (), (("up", (("u",), ("v",))),))):
            right = [is_kind(question, stream, kind) for question, stream in (
                (LESS, "left"), (STAIRS, "left"), (STAIRS, "right"), (WITHIN, "probe"), (DEEP, "one"))]
            self.assertEqual(right, [kind == UP, kind == SIDE, kind not in (UP, SIDE), False, kind == UP])

    def test_many_wrong_values(self):
        self.assertTrue(len(NO_QUESTIONS) > 20 and len(no_rows(2)) > 20 and len(many_asked(1, 3)) == 3)


if __name__ == "__main__":
    unittest.main()
