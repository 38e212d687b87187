"""[0.14], [0.15], [9.1] to [9.3] and what the document says of needrows.rises.standard."""
import itertools
import random
import unittest

from needrows.ask.questions import Question
from needrows.errors import InvalidNumber, InvalidOperation
from needrows.rises.kinds import kinds
from needrows.rises.standard import is_clear, placed_about, spans, standard_rise, which_ring
from tests.asked import (
    DEEP, EVERY, LESS, STAIRS, WIDE, WITHIN, check_wrong, expect, flat, wrong_rest, wrong_rows, wrong_start)
from tests.helpers import FAR, is_whole, order_of
from tests.rising import FALL, SIDE, UP, WRONG_KIND, clear_in, columns_in_item, rise_in, scenes, sign, spans_in

STEPS = ((0, 20), (4, 16), (8, 12))
REST = {"right": (5, 17)}
NO_NUMBERS = tuple(value for value in EVERY if not is_whole(value))
WRONG_MANY = ((*NO_NUMBERS, 0, -1, 61, FAR, -FAR), InvalidNumber, "value")


def wrong_index(many):
    return ((*NO_NUMBERS, many, -1, many + 1, FAR), InvalidNumber, "value")


class Standard(unittest.TestCase):
    def check(self, question, stream, columns, points, kind, many):
        """The only rise of the kind whose numbers go in steps of four from where they have to."""
        rows = standard_rise(question, stream, kind, many)
        self.assertEqual(len(rows), many)
        self.assertTrue(rise_in(columns, points, kind, rows))
        tables = [dict(zip(columns, row)) for row in rows]
        below, above = (
            sorted({table[one] for table in tables for item in items for one in columns_in_item(item)})
            for items in (kind[0], kind[2]))
        start = points[-1] + 4 if points else 0
        self.assertEqual(above, [start + 4 * at for at in range(len(above))])
        if below:
            self.assertEqual(below, [points[0] - 4 * at for at in range(len(below), 0, -1)])

    def test_against_definition(self):
        for asked, stream, _ in scenes(81, 24):
            for at, kind in enumerate(kinds(asked.question, stream)):
                for many in (1, 2, 3, 7, 60)[at % 2::2]:
                    self.check(asked.question, stream, asked.streams[stream], asked.points, kind, many)
        for question, stream in ((WIDE, "left"), (DEEP, "one"), (DEEP, "some")):
            for kind in kinds(question, stream):
                for many in (1, 2, 3, 60):
                    self.check(question, stream, question.columns_of(stream), question.points, kind, many)

    def test_examples(self):
        self.assertEqual(standard_rise(LESS, "left", UP, 3), ((0,), (4,), (8,)))
        self.assertEqual(standard_rise(WITHIN, "pair", SIDE, 2), ((0, 4), (8, 12)))
        self.assertEqual(standard_rise(STAIRS, "left", FALL, 1), ((0, 4),))
        both = ((("stay", ("x",)), ("up", (("y",),))), (), ())
        self.assertEqual(standard_rise(WIDE, "left", both, 2), ((-12, -8), (-12, -4)))
        split = ((("up", (("y",),)),), (), (("down", (("x",),)),))
        self.assertEqual(standard_rise(WIDE, "left", split, 2), ((11, -8), (7, -4)))
        self.assertEqual(standard_rise(WIDE, "left", ((), (("x", 2),), (("up", (("y",),)),)), 2), ((2, 7), (2, 11)))

    def test_wrong(self):
        start = wrong_start(STAIRS)
        check_wrong(self, standard_rise, [STAIRS, "left", FALL, 3], [*start, WRONG_KIND, WRONG_MANY])


class Spans(unittest.TestCase):
    def rises(self, seed):
        source = random.Random(seed)
        for asked, stream, some in scenes(seed, 30, 4):
            for kind in some:
                rows = standard_rise(asked.question, stream, kind, source.randrange(1, 6))
                yield asked, stream, kind, rows

    def test_spans(self):
        for asked, stream, kind, rows in self.rises(82):
            for index, row in enumerate(rows):
                right = spans_in(asked.streams[stream], kind, row)
                self.assertEqual(spans(asked.question, stream, kind, rows, index), right)
        self.assertEqual(spans(WITHIN, "pair", SIDE, ((0, 6), (10, 11)), 0), ((0, 6),))
        self.assertEqual(spans(STAIRS, "left", FALL, ((0, 20), (4, 16)), 1), ((4, 4), (16, 16)))
        split = ((("up", (("y",),)),), (), (("down", (("x",),)),))
        self.assertEqual(spans(WIDE, "left", split, ((9, -7), (5, -6)), 0), ((-7, -7), (9, 9)))
        self.assertEqual(spans(STAIRS, "left", ((), (), (("stay", ("x",)), ("up", (("y",),)))), ((1, 5),), 0), ((5, 5),))

    def test_is_clear(self):
        source = random.Random(83)
        for asked, stream, kind, rows in self.rises(83):
            for index in range(len(rows)):
                for _ in range(12):
                    numbers = source.choices(range(-20, 40), k=asked.many_of_rest(stream))
                    right = clear_in(asked.streams[stream], kind, rows[index], numbers)
                    rest = asked.rest_of(stream, numbers)
                    self.assertIs(is_clear(asked.question, stream, kind, rows, index, rest), right)
        told = [is_clear(WITHIN, "pair", SIDE, ((0, 6), (10, 11)), 0, {"probe": (number,)}) for number in (-1, 0, 3, 6, 7)]
        self.assertEqual(told, [True, False, False, False, True])

    def test_in_at_most_one_span(self):
        for asked, stream, kind, rows in self.rises(84):
            for number in range(-60, 60):
                inside = [row for row in rows if not clear_in(asked.streams[stream], kind, row, [number])]
                self.assertLessEqual(len(inside), 1)

    def test_which_ring(self):
        source = random.Random(85)
        for asked, stream, _, rows in self.rises(85):
            for _ in range(10):
                rest = asked.rest_of(stream, source.choices(range(-9, 20), k=asked.many_of_rest(stream)))
                right = tuple(bool(asked.rings(stream, row, rest)) for row in rows)
                self.assertEqual(which_ring(asked.question, stream, rows, rest), right)
                self.assertEqual(which_ring(asked.question, stream, rows[::-1] + rows, rest), right[::-1] + right)
        self.assertEqual(which_ring(STAIRS, "left", (), REST), ())

    def test_wrong(self):
        start, rows, rest = wrong_start(STAIRS), wrong_rows(STAIRS, "left"), wrong_rest(STAIRS, "left")
        check_wrong(self, spans, [STAIRS, "left", FALL, STEPS, 1], [*start, WRONG_KIND, rows, wrong_index(3)])
        check_wrong(self, is_clear, [STAIRS, "left", FALL, STEPS, 1, REST], [*start, WRONG_KIND, rows, wrong_index(3), rest])
        check_wrong(self, which_ring, [STAIRS, "left", STEPS, REST], [*start, rows, rest])

    def test_no_rise(self):
        for rows in (STEPS[::-1], STEPS[:2] * 2, ((5, 4),), STEPS[:1] * 2):
            for arguments in ((STAIRS, "left", FALL, rows, 0), (STAIRS, "left", FALL, rows, len(rows) - 1)):
                expect(self, spans, arguments, {}, False, InvalidOperation, None, rows)
                expect(self, is_clear, (*arguments, REST), {}, False, InvalidOperation, None, rows)
        for index in (0, 1, -1):
            expect(self, spans, (STAIRS, "left", FALL, (), index), {}, False, InvalidNumber, "value", index)


class Placed(unittest.TestCase):
    def check(self, asked, stream, kind, rest, many, index):
        """By the definition: all that has to compare alike does."""
        three = standard_rise(asked.question, stream, kind, 3)
        rows = standard_rise(asked.question, stream, kind, many)
        found = placed_about(asked.question, stream, kind, rest, many, index)
        self.assertEqual(list(found), asked.others(stream))
        before, after = flat(rest), flat(found)
        self.assertTrue(all(map(is_whole, after)))
        self.assertEqual([len(found[one]) for one in found], [len(asked.streams[one]) for one in found])
        self.assertEqual(order_of(before, asked.points), order_of(after, asked.points))
        for at, row in enumerate(rows):
            like = three[0] if at < index else three[1] if at == index else three[2]
            for old, new in zip(before, after):
                self.assertEqual([sign(old, one) for one in like], [sign(new, one) for one in row], (kind, rest, many, index))

    def test_against_definition(self):
        for asked, stream, some in scenes(86, 27, 4):
            for kind in some:
                three = standard_rise(asked.question, stream, kind, 3)
                columns = asked.streams[stream]
                rests = [
                    rest for rest in asked.rests(stream, three)
                    if clear_in(columns, kind, three[0], flat(rest)) and clear_in(columns, kind, three[2], flat(rest))]
                source = random.Random(str(kind))
                for rest in source.sample(rests, min(9, len(rests))):
                    for many, index in ((1, 0), (2, 0), (2, 1), (5, 2), (5, 4), (17, 11)):
                        self.check(asked, stream, kind, rest, many, index)

    def test_each_index(self):
        climb = {"right": (5, 17)}
        for many in (1, 3, 9, 60):
            rows = standard_rise(STAIRS, "left", FALL, many)
            for index in range(many):
                rest = placed_about(STAIRS, "left", FALL, climb, many, index)
                right = tuple(at == index for at in range(many))
                self.assertEqual(which_ring(STAIRS, "left", rows, rest), right)

    def test_far_and_near(self):
        rest = {"right": (FAR, -FAR)}
        found = placed_about(STAIRS, "left", FALL, rest, 7, 3)["right"]
        self.assertTrue(found[0] > 48 and found[1] < 0)
        self.assertEqual(placed_about(LESS, "left", UP, {"right": (4,)}, 9, 5), {"right": (20,)})
        three = Question(("always",), a=("x",), b=("u",), c=("v", "w"))
        rest = {"b": (7,), "c": (5, 6)}
        found = flat(placed_about(three, "a", UP, rest, 4, 0))
        self.assertTrue(0 < found[1] < found[2] < found[0] < 4)

    def test_wrong(self):
        wrong = [*wrong_start(STAIRS), WRONG_KIND, wrong_rest(STAIRS, "left"), WRONG_MANY, wrong_index(5)]
        check_wrong(self, placed_about, [STAIRS, "left", FALL, REST, 5, 2], wrong)
        for many in (1, 2, 60):
            for index in (many, many + 1, -1):
                expect(self, placed_about, (STAIRS, "left", FALL, REST, many, index), {}, False, InvalidNumber, "value", index)

    def test_not_clear(self):
        for numbers in ((0, 17), (5, 20), (8, 17), (12, 12), (9, 12)):
            arguments = (STAIRS, "left", FALL, {"right": numbers}, 5, 2)
            expect(self, placed_about, arguments, {}, False, InvalidOperation, None, numbers)
        for number in (0, 2, 4, 16, 19, 20):
            arguments = (WITHIN, "pair", SIDE, {"probe": (number,)}, 3, 1)
            expect(self, placed_about, arguments, {}, False, InvalidOperation, None, number)
        for number in (-1, 5, 8, 10, 12, 15, 21):
            self.assertEqual(len(placed_about(WITHIN, "pair", SIDE, {"probe": (number,)}, 3, 1)), 1)
        expect(self, placed_about, (STAIRS, "left", FALL, {"right": (0, 0)}, 5, 5), {}, False, InvalidNumber, "value", 5)


class AllOrders(unittest.TestCase):
    def test_standard_rise_has_all_orders(self):
        """[9.1]: the orders of rests among rows of any rise occur among the standard rise, too."""
        source = random.Random(87)
        for asked, stream, some in scenes(88, 18, 2, 2):
            for kind in some:
                columns = asked.streams[stream]
                found = [tuple(asked.random_row(source, stream, -9, 15) for _ in range(2)) for _ in range(400)]
                for rows in [rows for rows in found if rise_in(columns, asked.points, kind, rows)][:3]:
                    self.assertLessEqual(
                        self.orders(asked, stream, rows),
                        self.orders(asked, stream, standard_rise(asked.question, stream, kind, 2)))

    def orders(self, asked, stream, rows):
        given = [number for row in rows for number in row] + list(asked.points)
        near = asked.numbers_near(stream, rows)
        return {order_of(one, given) for one in itertools.product(near, repeat=asked.many_of_rest(stream))}


if __name__ == "__main__":
    unittest.main()
