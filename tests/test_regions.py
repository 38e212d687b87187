"""[0.12], [0.20], [6.1], [6.2] and what the document says of needrows.cover.regions."""
import itertools
import random
import unittest

from needrows.ask.questions import Question
from needrows.cover.regions import (
    compared, exchangeable_rows, is_covered, is_reason, least_cover, reason, rests_among)
from needrows.errors import InvalidQuestion, InvalidRow, TooMany
from tests.asked import (
    DEEP, EVERY, FAR_ROWS, LESS, STAIRS, UNLIKE, WIDE, WITHIN, Asked, check_wrong, expect, flat, many_asked, no_rests,
    no_rows, wrong_row, wrong_rows, wrong_start)
from tests.helpers import FAR, is_whole, order_of

# Two streams with two columns are tried with fewer rows: the oracle has very many rests beside two columns.
MANY = many_asked(51, 90)
ROWS = ((1, 9), (4, 2))
TWELVE = tuple((at * 7 % 12 * 5, at * 5 % 12 * 5 + 1) for at in range(12))
SIX = tuple((at * 5 % 6 * 4,) for at in range(6))


def scenes(seed, many_rows=4):
    """Questions with a stream and some rows of it."""
    source = random.Random(seed)
    for at, asked in enumerate(MANY):
        for stream in asked.streams:
            most = 3 if asked.many_of_rest(stream) > 1 else many_rows
            high = (3, 6, 9)[at % 3]
            yield asked, stream, asked.random_rows(source, stream, source.randrange(1, most + 1), -2, high)


class Among(unittest.TestCase):
    def check(self, question, stream, rows, near):
        """Each order once, and all of them, held against all tuples of integers near the rows and the points."""
        given = sorted({number for row in rows for number in row}.union(question.points))
        columns = {other: len(question.columns_of(other)) for other in question.others(stream)}
        found = []
        for rest in rests_among(question, stream, rows):
            self.assertEqual({other: len(row) for other, row in rest.items()}, columns)
            self.assertEqual(list(rest), sorted(columns))
            self.assertTrue(all(type(row) is tuple and all(map(is_whole, row)) for row in rest.values()))
            found.append(order_of(flat(rest), given))
        self.assertEqual(len(found), len(set(found)))
        many = sum(columns.values())
        self.assertEqual(set(found), {order_of(one, given) for one in itertools.product(near, repeat=many)})

    def test_against_count(self):
        for asked, stream, rows in scenes(52, 3):
            self.check(asked.question, stream, rows, asked.numbers_near(stream, rows))

    def test_no_rows(self):
        for question, stream, many in (
                (LESS, "left", 1), (STAIRS, "left", 3), (WITHIN, "probe", 3), (DEEP, "one", None)):
            found = list(rests_among(question, stream, ()))
            if many:
                self.assertEqual(len(found), many)
            self.check(question, stream, (), range(-4, 8))

    def test_order_and_number_of_rows(self):
        rows = ((3, 1), (0, 7), (2, 2))
        whole = [order_of(flat(rest), range(8)) for rest in rests_among(STAIRS, "left", rows)]
        for other in (rows[::-1], rows + rows, (*rows, rows[1])):
            found = [order_of(flat(rest), range(8)) for rest in rests_among(STAIRS, "left", other)]
            self.assertEqual(sorted(found), sorted(whole))

    def test_number(self):
        self.assertEqual(len(list(rests_among(LESS, "left", ((0,), (5,), (9,))))), 7)
        self.assertEqual(len(list(rests_among(LESS, "left", ((0,), (1,), (2,))))), 5)
        self.assertEqual(len(list(rests_among(UNLIKE.with_condition(("<", "x", 2)), "right", ((0,), (1,))))), 5)

    def test_in_part_and_two_at_a_time(self):
        whole = list(rests_among(STAIRS, "left", ROWS))
        one, other = rests_among(STAIRS, "left", ROWS), rests_among(STAIRS, "left", ROWS)
        self.assertEqual(list(itertools.islice(one, 7)), whole[:7])
        self.assertEqual(list(zip(one, other)), list(zip(whole[7:], whole)))
        seen = []
        for rest in rests_among(STAIRS, "left", ROWS):
            seen.append(dict(rest))
            rest.clear()
        self.assertEqual(seen, whole)


class Covered(unittest.TestCase):
    def check_reason(self, asked, stream, row, beside, region, others):
        found = reason(asked.question, stream, row, beside=beside)
        covered = region <= others
        self.assertIs(is_covered(asked.question, stream, row, by=beside), covered, (asked.condition, row, beside))
        if covered:
            self.assertIsNone(found)
        else:
            self.assertEqual(list(found), asked.others(stream))
            self.assertTrue(all(map(is_whole, flat(found))))
            self.assertTrue(asked.rings(stream, row, found))
            self.assertFalse(any(asked.rings(stream, one, found) for one in beside))
            self.assertIs(is_reason(asked.question, stream, row, found, beside=beside), True)

    def test_against_oracle(self):
        for asked, stream, rows in scenes(53):
            regions = asked.regions(stream, rows)
            for row, many in itertools.product(rows, range(len(rows) + 1)):
                for beside in itertools.islice(itertools.permutations(rows, many), 4):
                    others = set().union(*(regions[one] for one in beside))
                    self.check_reason(asked, stream, row, beside, regions[row], others)
                    self.check_cover(asked, stream, row, beside, regions)

    def check_cover(self, asked, stream, row, by, regions):
        found = least_cover(asked.question, stream, row, by=by)
        if not regions[row] <= set().union(*(regions[one] for one in by)):
            self.assertIsNone(found)
            return
        self.assertEqual(found, tuple(sorted(set(found))))
        self.assertLessEqual(set(found), set(by))
        self.assertLessEqual(regions[row], set().union(*(regions[one] for one in found)))
        for one in found:
            left = [other for other in found if other != one]
            self.assertFalse(regions[row] <= set().union(*(regions[other] for other in left)))

    def test_is_reason(self):
        for asked, stream, rows in scenes(54, 3):
            row, *beside = rows
            rests = asked.rests(stream, rows)
            for rest in rests[::max(1, len(rests) // 40)]:
                right = asked.rings(stream, row, rest) and not any(asked.rings(stream, one, rest) for one in beside)
                self.assertIs(is_reason(asked.question, stream, row, rest, beside=tuple(beside)), bool(right))
                turned = {other: rest[other] for other in reversed(rest)}
                self.assertIs(is_reason(asked.question, stream, row, turned, beside=tuple(beside)), bool(right))

    def test_no_reasons(self):
        for value in (*no_rests(STAIRS, "left"), None):
            self.assertIs(is_reason(STAIRS, "left", (1, 2), value), False)
        self.assertIs(is_reason(STAIRS, "left", (1, 2), {"right": (2, 3)}), True)
        self.assertIs(is_reason(STAIRS, "left", (1, 2), {"right": (2, 3)}, beside=((1, 2),)), False)
        self.assertIs(is_reason(LESS, "left", (-FAR,), {"right": (FAR,)}, beside=((FAR,),)), True)

    def test_rows_that_ring_with_no_rest(self):
        for row in ((5, 5), (7, 2), (6, 7)):
            self.assertIs(is_covered(WITHIN, "pair", row), True)
            self.assertEqual([least_cover(WITHIN, "pair", row), reason(WITHIN, "pair", row)], [(), None])
            self.assertEqual(least_cover(WITHIN, "pair", row, by=((0, 9), row)), ())
        never = Question(("never",), left=("x",), right=("u",))
        self.assertEqual([is_covered(never, "left", (1,)), least_cover(never, "right", (1,), by=((1,), (2,)))], [True, ()])

    def test_conditions_without_columns_of_both(self):
        always = Question(("always",), left=("x",), right=("u", "v"))
        self.assertEqual([is_covered(always, "left", (1,)), is_covered(always, "left", (1,), by=((7,),))], [False, True])
        self.assertIn(least_cover(always, "left", (1,), by=((7,), (1,), (3,))), (((1,),), ((3,),), ((7,),)))
        self.assertEqual([len(one) for one in reason(always, "left", (1,)).values()], [2])
        some = Question(("and", ("<", "x", 3), ("!=", "u", 1)), left=("x",), right=("u",))
        self.assertEqual([is_covered(some, "left", (5,)), is_covered(some, "left", (2,), by=((5,),))], [True, False])
        self.assertEqual(compared(some, "left", (2,), (-9,)), "equal")

    def test_row_beside_itself(self):
        for asked, stream, rows in scenes(55, 2):
            row = rows[0]
            self.assertIs(is_covered(asked.question, stream, row, by=(row,)), True)
            self.assertIsNone(reason(asked.question, stream, row, beside=(*rows, row)))
            self.assertIn(least_cover(asked.question, stream, row, by=(row, row)), ((), (row,)))

    def test_far_rows(self):
        self.assertIs(is_covered(LESS, "left", (FAR,), by=((-FAR,),)), True)
        self.assertIs(is_covered(LESS, "left", (-FAR,), by=((FAR,),)), False)
        self.assertTrue(FAR_ROWS < tuple(reason(STAIRS, "left", FAR_ROWS, beside=((FAR + 1, -FAR),))["right"]))

    def test_dependence_on_two_rows(self):
        # No single row covers, two do; and no two of the three, though all three do.
        self.assertIs(is_covered(UNLIKE, "left", (1,), by=((2,),)), False)
        self.assertIs(is_covered(UNLIKE, "left", (1,), by=((2,), (3,))), True)
        pieces = ((0, 4), (3, 8), (7, 12))
        self.assertEqual(least_cover(WITHIN, "pair", (1, 11), by=pieces[::-1]), pieces)
        for two in itertools.combinations(pieces, 2):
            self.assertIs(is_covered(WITHIN, "pair", (1, 11), by=two), False)


class Compared(unittest.TestCase):
    def test_against_oracle(self):
        for asked, stream, rows in scenes(56):
            regions = asked.regions(stream, rows)
            for row, other in itertools.product(rows, repeat=2):
                one, two = regions[row], regions[other]
                right = "equal" if one == two else "within" if one < two else "around" if one > two else "apart"
                self.assertEqual(compared(asked.question, stream, row, other), right)

    def test_all_words(self):
        found = [compared(STAIRS, "left", (3, 3), other) for other in ((3, 3), (2, 3), (4, 9), (2, 4))]
        self.assertEqual(found, ["equal", "within", "around", "apart"])

    def test_exchangeable_rows(self):
        for asked, stream, rows in scenes(57):
            regions = asked.regions(stream, rows)
            classes = {}
            for row in sorted(set(rows)):
                classes.setdefault(tuple(sorted(regions[row])), []).append(row)
            right = tuple(sorted(map(tuple, classes.values())))
            self.assertEqual(exchangeable_rows(asked.question, stream, rows), right)
            self.assertEqual(exchangeable_rows(asked.question, stream, rows[::-1] + rows), right)

    def test_exchangeable_examples(self):
        self.assertEqual(exchangeable_rows(LESS, "left", ()), ())
        self.assertEqual(exchangeable_rows(LESS, "left", ((5,), (2,), (5,))), (((2,),), ((5,),)))
        rows = ((5, 5), (9, 1), (0, 2), (0, 1))
        self.assertEqual(exchangeable_rows(WITHIN, "pair", rows), (((0, 1), (5, 5), (9, 1)), ((0, 2),)))


class Limits(unittest.TestCase):
    def calls(self, question, stream, rows):
        """All functions that have the limit, with these rows in different places."""
        return (
            (lambda: list(rests_among(question, stream, rows)), True),
            (lambda: reason(question, stream, rows[0], beside=rows[1:]), True),
            (lambda: reason(question, stream, rows[0], beside=rows), True),
            (lambda: is_covered(question, stream, rows[0], by=rows[1:]), True),
            (lambda: least_cover(question, stream, rows[-1], by=rows[:-1]), True),
            (lambda: exchangeable_rows(question, stream, rows), True),
            (lambda: is_reason(question, stream, rows[0], {}, beside=rows[1:]), False),
            (lambda: compared(question, stream, rows[0], rows[1]), False))

    def test_met_and_passed(self):
        for question, stream, rows, one, limit in (
                (WIDE, "left", TWELVE, (60, 60), 12), (WIDE, "right", TWELVE, (60, 60), 12),
                (DEEP, "one", SIX, (90,), 6), (DEEP, "two", SIX, (90,), 6), (DEEP, "some", TWELVE, (1, 0), 12),
                (LESS, "left", tuple((at,) for at in range(12)), (12,), 12)):
            for call, _ in self.calls(question, stream, rows):
                call()
            for call, _ in self.calls(question, stream, rows + rows[:3]):
                call()
            for call, limited in self.calls(question, stream, (*rows, one)):
                if limited:
                    with self.assertRaises(TooMany) as caught:
                        call()
                    self.assertEqual(caught.exception.limit, limit)
                else:
                    call()

    def test_generator_raises_late(self):
        begun = rests_among(LESS, "left", tuple((at,) for at in range(13)))
        with self.assertRaises(TooMany):
            next(begun)

    def test_comes_last(self):
        rows = tuple((at,) for at in range(13))
        for value in no_rows(1)[-5:]:
            for call in (reason, is_covered, least_cover):
                name = "beside" if call is reason else "by"
                expect(self, call, (LESS, "left", (0,)), {name: (*rows, value)}, False, InvalidRow, None, value)
                expect(self, call, (LESS, "left", value), {name: rows}, False, InvalidRow, None, value)
            expect(self, exchangeable_rows, (LESS, "left", (*rows, value)), {}, False, InvalidRow, None, value)

    def test_greatest(self):
        """Against the oracle where it is quick enough: one rest column, or few rows."""
        asked = Asked(("or", ("and", ("<", "x", "u"), ("<", "u", "y")), ("=", "u", 3), ("and", ("<", "y", 0), ("<", "u", "y"))),
                      {"pair": ("x", "y"), "probe": ("u",)})
        rows = tuple((at * 7 % 12, at * 5 % 12 + 2) for at in range(12))
        regions = asked.regions("pair", rows)
        for at, row in enumerate(rows):
            others = rows[:at] + rows[at + 1:]
            right = regions[row] <= set().union(*(regions[one] for one in others))
            self.assertIs(is_covered(asked.question, "pair", row, by=others), right)


class Wrong(unittest.TestCase):
    def test_one_and_two(self):
        start, row, rows = wrong_start(STAIRS), wrong_row(STAIRS, "left"), wrong_rows(STAIRS, "left")
        check_wrong(self, rests_among, [STAIRS, "left", ROWS], [*start, rows], late=True)
        check_wrong(self, exchangeable_rows, [STAIRS, "left", ROWS], [*start, rows])
        check_wrong(self, compared, [STAIRS, "left", *ROWS], [*start, row, row])
        check_wrong(self, reason, [STAIRS, "left", ROWS[0], ROWS], [*start, row, rows], names=("beside",))
        check_wrong(self, is_covered, [STAIRS, "left", ROWS[0], ROWS], [*start, row, rows], names=("by",))
        check_wrong(self, least_cover, [STAIRS, "left", ROWS[0], ROWS], [*start, row, rows], names=("by",))
        check_wrong(self, is_reason, [STAIRS, "left", ROWS[0], {}, ROWS], [*start, row, None, rows], names=("beside",))

    def test_any_value_beside_a_wrong_one(self):
        for value in EVERY:
            if not isinstance(value, Question):
                expect(self, is_reason, (value, "left", (1,), value), {}, False, InvalidQuestion, None, value)

    def test_by_keyword(self):
        for call in (reason, is_covered, least_cover):
            with self.assertRaises(TypeError):
                call(LESS, "left", (1,), ((2,),))


class Words(unittest.TestCase):
    def test_streams_that_are_words(self):
        question = Question.of(("<", "x", "u"), {"self": ("x",), "question": ("u",), "names": ("v",)})
        self.assertEqual(list(reason(question, "self", (3,), beside=((5,),))), ["names", "question"])
        self.assertIs(is_covered(question, "question", (3,), by=((5,),)), True)
        self.assertEqual(least_cover(question, "names", (3,), by=((5,),)), ((5,),))


if __name__ == "__main__":
    unittest.main()
