"""[12.2] and what the document says of needrows.few.found."""
import itertools
import random
import unittest

from needrows.ask.questions import Question
from needrows.errors import InvalidNumber, InvalidOperation, TooMany
from needrows.few.found import MAX_SEARCHED, found_need, longest_rise, rises_in
from needrows.few.needs import is_need, needs
from needrows.rises.kinds import kinds
from needrows.rises.standard import placed_about, standard_rise
from tests.asked import (
    DEEP, EVERY, LESS, STAIRS, WIDE, WITHIN, check_wrong, expect, flat, many_asked, wrong_rest, wrong_rows, wrong_start)
from tests.helpers import FAR, is_whole
from tests.rising import FALL, SIDE, clear_in, kinds_in, rise_in, sign

PIECES = ((0, 3), (5, 8), (10, 13), (15, 18), (20, 23))
MIDDLE = {"probe": (11,)}
WRONG_LEAST = (tuple(value for value in EVERY if not (is_whole(value) and value >= 2)) + (-2,), InvalidNumber, "value")
WRONG_INDEX = (tuple(value for value in EVERY if not is_whole(value)) + (5, -1, FAR), InvalidNumber, "value")


def rises_by_all_sets(asked, stream, rows, least):
    """The pairs of `rises_in` by trying all sets of indices with all kinds."""
    columns = asked.streams[stream]
    every = kinds_in(columns, asked.points)
    found = []
    for many in range(least, len(rows) + 1):
        for indices in itertools.combinations(range(len(rows)), many):
            some = tuple(rows[index] for index in indices)
            found += [(kind, indices) for kind in every if rise_in(columns, asked.points, kind, some)]
    return sorted(found, key=lambda pair: pair[1])


def orders(numbers, rows, points):
    """How integers compare with one another, with those of rows, and with the points."""
    every = (*numbers, *(number for row in rows for number in row), *points)
    return tuple(sign(one, other) for one in every for other in every)


class Rises(unittest.TestCase):
    def test_all_sets_of_indices(self):
        source = random.Random(211)
        for asked in many_asked(212, 36, ((1, 1), (2, 1), (1, 2), (2, 2))):
            for stream in asked.streams:
                rows = asked.random_rows(source, stream, source.randrange(2, 7), -3, 6)
                least = source.choice((2, 3, 4))
                right = rises_by_all_sets(asked, stream, rows, least)
                self.assertEqual(list(rises_in(asked.question, stream, rows, least=least)), right, rows)
                longest = longest_rise(asked.question, stream, rows)
                every = rises_by_all_sets(asked, stream, rows, 2)
                if every:
                    self.assertIn(longest, every)
                    self.assertEqual(len(longest[1]), max(len(indices) for _, indices in every))
                else:
                    self.assertIsNone(longest)

    def test_order_and_least(self):
        rows = tuple((number,) for number in (1, 2, 3, 4))
        found = [indices for _, indices in rises_in(LESS, "left", rows, least=2)]
        self.assertEqual(found, sorted(
            indices for many in (2, 3, 4) for indices in itertools.combinations(range(4), many)))
        self.assertEqual([indices for _, indices in rises_in(LESS, "left", rows)], [one for one in found if len(one) > 2])
        self.assertEqual(list(rises_in(LESS, "left", rows, least=5)), [])
        self.assertEqual(list(rises_in(LESS, "left", rows, least=FAR)), [])
        self.assertEqual(list(rises_in(LESS, "left", rows[::-1], least=2)), [])
        self.assertEqual(list(rises_in(LESS, "left", (), least=2)), [])
        self.assertEqual(list(rises_in(LESS, "left", rows[:1], least=2)), [])

    def test_rows_that_rise_two_by_two(self):
        """Each two neighbours are a rise of one kind, but all three are none."""
        rows = ((1, 3), (2, 4), (3, 5))
        found = list(rises_in(STAIRS, "left", rows, least=2))
        self.assertEqual([indices for _, indices in found], [(0, 1), (1, 2)])
        self.assertEqual(found[0][0], found[1][0])

    def test_equal_rows(self):
        rows = ((1,), (1,), (2,), (1,))
        found = [indices for _, indices in rises_in(LESS, "left", rows, least=2)]
        self.assertEqual(found, [(0, 2), (1, 2)])
        self.assertIn(longest_rise(LESS, "left", rows)[1], found)
        self.assertIsNone(longest_rise(LESS, "left", ((1,),) * 4))
        self.assertIsNone(longest_rise(LESS, "left", ()))
        self.assertIsNone(longest_rise(LESS, "left", ((1,),)))

    def test_ten_rows_and_eleven(self):
        self.assertEqual(MAX_SEARCHED, 10)
        for question, stream in ((LESS, "left"), (WITHIN, "pair"), (WIDE, "left"), (DEEP, "some")):
            for kind in list(kinds(question, stream))[::11]:
                rows = standard_rise(question, stream, kind, 11)
                whole = list(rises_in(question, stream, rows[:10], least=2))
                self.assertEqual(len(whole), 2 ** 10 - 11)
                self.assertEqual({one for one, _ in whole}, {kind})
                self.assertEqual(longest_rise(question, stream, rows[:10]), (kind, tuple(range(10))))
                for some in (rows, rows[:10] + rows[:1], (rows[0],) * 11):
                    expect(self, rises_in, (question, stream, some), {}, True, TooMany, "limit", 10)
                    expect(self, rises_in, (question, stream, some), {"least": 12}, True, TooMany, "limit", 10)
                    expect(self, longest_rise, (question, stream, some), {}, False, TooMany, "limit", 10)
                expect(self, rises_in, (question, stream, rows), {"least": 1}, True, InvalidNumber, "value", 1)

    def test_in_part_and_two_at_a_time(self):
        rows = standard_rise(STAIRS, "left", FALL, 6)
        whole = list(rises_in(STAIRS, "left", rows))
        one, other = rises_in(STAIRS, "left", rows), rises_in(STAIRS, "left", rows)
        self.assertEqual(list(itertools.islice(one, 5)), whole[:5])
        self.assertEqual(list(zip(one, other)), list(zip(whole[5:], whole)))


class Needs(unittest.TestCase):
    def check(self, question, stream, rows, index, rest, kind, points):
        found = found_need(question, stream, rows, index, rest)
        self.assertEqual(found[:2], ("need", kind))
        self.assertIs(is_need(question, stream, found), True)
        columns = question.columns_of(stream)
        three = standard_rise(question, stream, kind, 3)
        after = orders(flat(found[2]), three, points)
        # The rest of the need stands to the three rows as the reason stands to a row in front, the row, and one behind.
        clear = [at for at, row in enumerate(rows) if clear_in(columns, kind, row, flat(rest))]
        fitting = [
            (front, behind) for front in clear for behind in clear if front < index < behind
            and orders(flat(rest), (rows[front], rows[index], rows[behind]), points) == after]
        self.assertTrue(fitting)

    def test_reasons_of_rises(self):
        source = random.Random(213)
        done = 0
        for asked in (*many_asked(214, 90), *many_asked(215, 90, ((2, 1), (1, 2), (2, 2), (1, 1)), 4)):
            for stream in asked.streams:
                question, side = asked.question, asked.many_of_rest(stream) + 1
                for kind in list(kinds(question, stream))[::3]:
                    for need in list(itertools.islice(needs(question, stream, kind), 9))[::4]:
                        many = 2 * side + 1 + source.randrange(3)
                        index = source.randrange(side, many - side)
                        rows = standard_rise(question, stream, kind, many)
                        rest = placed_about(question, stream, kind, need[2], many, index)
                        self.check(question, stream, rows, index, rest, kind, asked.points)
                        done += 1
        self.assertGreater(done, 60)

    def test_rows_with_other_gaps(self):
        for at in range(1, 3):
            self.check(WITHIN, "pair", ((-9, 3), (5, 6), (10, 13), (14, 99), (200, FAR)), 2, {"probe": (10 + at,)}, SIDE, ())
        rows = tuple((7 * at, 200 - 8 * at) for at in range(9))
        for index in (3, 4, 5):
            x, y = rows[index]
            for rest in ((x + 1, y + 1), (x + 3, y + 8), (x + 7, y + 2)):
                self.check(STAIRS, "left", rows, index, {"right": rest}, FALL, ())

    def test_rests_within_other_spans(self):
        """A reason can lie within the span of a row next to the row, as long as it is clear of another one."""
        question = Question(("and", ("<", "x", "u"), ("<", "u", "y"), ("<", "v", "y")), pair=("x", "y"), some=("u", "v"))
        rows = tuple((10 * at, 10 * at + 5) for at in range(7))
        for v in (-4, 4, 12, 22, 31):
            self.check(question, "pair", rows, 3, {"some": (32, v)}, SIDE, ())

    def test_example(self):
        found = found_need(WITHIN, "pair", PIECES, 2, MIDDLE)
        self.assertEqual(found[:2], ("need", SIDE))
        self.assertIn(found[2], [{"probe": (number,)} for number in (9, 10, 11)])

    def test_too_few_rows(self):
        for many, index in ((4, 2), (4, 1), (5, 1), (5, 3), (3, 1), (2, 0), (1, 0), (9, 0), (9, 8), (9, 1), (9, 7)):
            rows = standard_rise(WITHIN, "pair", SIDE, many)
            rest = {"probe": (rows[index][0] + 1,)}
            expect(self, found_need, (WITHIN, "pair", rows, index, rest), {}, False, InvalidOperation, None, index)
        rows = standard_rise(WITHIN, "pair", SIDE, 5)
        self.assertIs(is_need(WITHIN, "pair", found_need(WITHIN, "pair", rows, 2, {"probe": (rows[2][0] + 1,)})), True)

    def test_no_rise_and_no_reason(self):
        for rows in (PIECES[::-1], PIECES[:3] + PIECES[4:] + PIECES[3:4], ((1, 2),) * 5, PIECES[:4] + ((19, 23),) + ((19, 24),)):
            expect(self, found_need, (WITHIN, "pair", rows, 2, MIDDLE), {}, False, InvalidOperation, None, rows)
        for number in (9, 10, 13, 14, 6, 21):
            expect(self, found_need, (WITHIN, "pair", PIECES, 2, {"probe": (number,)}), {}, False, InvalidOperation, None, number)
        rows = tuple((number,) for number in range(5))
        for number in (2, 3, 9):
            expect(self, found_need, (LESS, "left", rows, 2, {"right": (number,)}), {}, False, InvalidOperation, None, number)

    def test_a_rest_that_rings_with_one_other_row(self):
        question = Question(("or", ("=", "x", "u"), ("=", "x", "v")), left=("x",), right=("u", "v"))
        rows, up = tuple((number,) for number in range(0, 18, 2)), ((), (), (("up", (("x",),)),))
        for other in range(-1, 19):
            rest = {"right": (8, other)}
            if other in range(0, 18, 2) and other != 8:
                expect(self, found_need, (question, "left", rows, 4, rest), {}, False, InvalidOperation, None, rest)
            else:
                self.check(question, "left", rows, 4, rest, up, ())

    def test_what_is_returned_is_new(self):
        found = found_need(WITHIN, "pair", PIECES, 2, MIDDLE)
        found[2].clear()
        self.assertEqual(MIDDLE, {"probe": (11,)})
        self.assertEqual(list(found_need(WITHIN, "pair", PIECES, 2, MIDDLE)[2]), ["probe"])


class Wrong(unittest.TestCase):
    def test_one_and_two(self):
        start, rows = wrong_start(WITHIN), wrong_rows(WITHIN, "pair")
        check_wrong(self, rises_in, [WITHIN, "pair", PIECES, 3], [*start, rows, WRONG_LEAST], True, ("least",))
        check_wrong(self, longest_rise, [WITHIN, "pair", PIECES], [*start, rows])
        check_wrong(
            self, found_need, [WITHIN, "pair", PIECES, 2, MIDDLE], [*start, rows, WRONG_INDEX, wrong_rest(WITHIN, "pair")])

    def test_index_of_no_row(self):
        expect(self, found_need, (WITHIN, "pair", (), 0, MIDDLE), {}, False, InvalidNumber, "value", 0)


if __name__ == "__main__":
    unittest.main()
