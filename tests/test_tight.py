"""[0.12], [0.17], [0.20], [7.1], [7.2] and what the document says of needrows.cover.tight."""
import itertools
import random
import unittest

from needrows.ask.questions import Question
from needrows.cover.regions import compared, is_covered, is_reason, reason
from needrows.cover.tight import (
    is_part_paper, is_tight, least_part, loose_row, part_paper, reasons_of, tight_part, tight_parts)
from needrows.errors import InvalidOperation, TooMany
from tests.asked import (
    DEEP, EVERY, LESS, NO_QUESTIONS, STAIRS, UNLIKE, WIDE, WITHIN, check_wrong, expect, many_asked, no_rests, no_rows,
    no_streams, wrong_rows, wrong_start)

MANY = many_asked(61, 72)
PIECES = ((0, 6), (0, 10), (4, 10))
TWELVE = tuple((at * 7 % 12 * 5, at * 5 % 12 * 5 + 1) for at in range(12))
SIX = tuple((at * 5 % 6 * 4,) for at in range(6))
STEPS = tuple((at * 3, 60 - at * 3) for at in range(13))
ALL = (is_tight, loose_row, tight_part, tight_parts, least_part, part_paper, is_part_paper, reasons_of)


def scenes(seed, most=4):
    source = random.Random(seed)
    for at, asked in enumerate(MANY):
        for stream in asked.streams:
            many = most if asked.many_of_rest(stream) == 1 else min(most, 3)
            rows = asked.random_rows(source, stream, source.randrange(many + 1), -2, (3, 6, 9)[at % 3])
            yield asked, stream, rows


def union(regions, rows):
    return set().union(*(regions[row] for row in rows))


def tight_in(regions, rows):
    """Whether rows are tight by the definition."""
    if list(rows) != sorted(set(rows)):
        return False
    return all(not regions[row] <= union(regions, [one for one in rows if one != row]) for row in rows)


def parts_in(regions, rows):
    """All tight parts by the definition, ascending."""
    rows = sorted(set(rows))
    every = [part for many in range(len(rows) + 1) for part in itertools.combinations(rows, many)]
    return sorted(part for part in every if tight_in(regions, part) and union(regions, part) >= union(regions, rows))


class Oracle(unittest.TestCase):
    def test_tight(self):
        for asked, stream, rows in scenes(62):
            regions = asked.regions(stream, rows)
            for many in range(len(rows) + 1):
                for some in itertools.islice(itertools.permutations(rows, many), 8):
                    self.assertIs(is_tight(asked.question, stream, some), tight_in(regions, some))
                some = tuple(sorted(set(rows[:many])))
                self.assertIs(is_tight(asked.question, stream, some), tight_in(regions, some))

    def test_parts(self):
        for asked, stream, rows in scenes(63, 5):
            regions = asked.regions(stream, rows)
            right = parts_in(regions, rows)
            self.assertEqual(list(tight_parts(asked.question, stream, rows)), right, (asked.condition, rows))
            self.assertIn(tight_part(asked.question, stream, rows), right)
            least = least_part(asked.question, stream, rows)
            self.assertIn(least, right)
            self.assertEqual(len(least), min(map(len, right)))
            loose = loose_row(asked.question, stream, rows)
            found = [row for row in set(rows) if regions[row] <= union(regions, [one for one in rows if one != row])]
            self.assertTrue(loose in found if found else loose is None)

    def test_papers(self):
        for asked, stream, rows in scenes(64):
            regions = asked.regions(stream, rows)
            paper = part_paper(asked.question, stream, rows)
            self.assertEqual([type(paper), len(paper), paper[0]], [tuple, 2, "part"])
            part = tuple(paper[1])
            self.assertIn(part, parts_in(regions, rows))
            self.check_reasons(asked, stream, paper[1])
            self.assertIs(is_part_paper(asked.question, stream, rows, paper), True)
            self.assertIs(is_part_paper(asked.question, stream, rows[::-1] + rows, paper), True)
            turned = {row: paper[1][row] for row in reversed(paper[1])}
            self.assertIs(is_part_paper(asked.question, stream, rows, ("part", turned)), True)
            self.check_reasons(asked, stream, reasons_of(asked.question, stream, part))

    def check_reasons(self, asked, stream, reasons):
        self.assertEqual(list(reasons), sorted(reasons))
        for row, rest in reasons.items():
            self.assertEqual(list(rest), asked.others(stream))
            self.assertEqual([row], [one for one in reasons if asked.rings(stream, one, rest)])

    def test_which_papers_are_right(self):
        """All papers of small tables of rows and rests, held against the definition."""
        for asked, stream, rows in scenes(65, 3):
            regions, rests = asked.regions(stream, rows), asked.rests(stream, rows)
            right = parts_in(regions, rows)
            source = random.Random(str(rows))
            for many in range(len(set(rows)) + 1):
                for part in itertools.combinations(sorted(set(rows)), many):
                    reasons = {row: source.choice(rests) for row in part}
                    for row in part if source.randrange(3) else ():
                        alone = regions[row] - union(regions, [one for one in part if one != row])
                        if alone:
                            reasons[row] = rests[source.choice(sorted(alone))]
                    told = part in right and all(
                        [row] == [one for one in part if asked.rings(stream, one, reasons[row])] for row in part)
                    self.assertIs(is_part_paper(asked.question, stream, rows, ("part", reasons)), told)

    def test_covered_by_tight_parts(self):
        for asked, stream, rows in scenes(66):
            part = tight_part(asked.question, stream, rows)
            for row in rows:
                self.assertIs(is_covered(asked.question, stream, row, by=part), True)
            half = len(rows) // 2
            one, other = (tight_part(asked.question, stream, some) for some in (rows[:half], rows[half:]))
            both = tight_part(asked.question, stream, one + other)
            self.assertIn(both, list(tight_parts(asked.question, stream, rows)))


class Examples(unittest.TestCase):
    def test_order_and_repeated_rows(self):
        self.assertIs(is_tight(WITHIN, "pair", ((0, 6), (4, 10))), True)
        self.assertIs(is_tight(WITHIN, "pair", ((4, 10), (0, 6))), False)
        self.assertIs(is_tight(WITHIN, "pair", ((0, 6), (0, 6), (4, 10))), False)
        self.assertEqual(list(tight_parts(WITHIN, "pair", PIECES[::-1] + PIECES)), list(tight_parts(WITHIN, "pair", PIECES)))
        self.assertEqual(tight_part(LESS, "left", ((5,), (2,), (2,), (9,))), ((2,),))
        self.assertIsNone(loose_row(LESS, "left", ((5,), (5,), (5,))))

    def test_no_rows(self):
        for question, stream in ((LESS, "left"), (STAIRS, "right"), (DEEP, "one")):
            self.assertIs(is_tight(question, stream, ()), True)
            self.assertIsNone(loose_row(question, stream, ()))
            self.assertEqual([tight_part(question, stream, ()), least_part(question, stream, ())], [(), ()])
            self.assertEqual(list(tight_parts(question, stream, ())), [()])
            self.assertEqual([part_paper(question, stream, ()), reasons_of(question, stream, ())], [("part", {}), {}])
            self.assertIs(is_part_paper(question, stream, (), ("part", {})), True)

    def test_rows_that_ring_with_no_rest(self):
        rows = ((5, 5), (6, 2))
        self.assertEqual([tight_part(WITHIN, "pair", rows), list(tight_parts(WITHIN, "pair", rows))], [(), [()]])
        self.assertEqual(list(tight_parts(WITHIN, "pair", (*rows, (0, 2)))), [((0, 2),)])
        self.assertIn(loose_row(WITHIN, "pair", (*rows, (0, 2))), rows)
        self.assertEqual([is_tight(WITHIN, "pair", rows[:1]), part_paper(WITHIN, "pair", rows)], [False, ("part", {})])

    def test_parts_with_unlike_numbers(self):
        self.assertEqual(sorted(map(len, tight_parts(WITHIN, "pair", PIECES))), [1, 2])
        self.assertEqual(list(tight_parts(UNLIKE, "left", ((3,), (1,), (2,)))), [((1,), (2,)), ((1,), (3,)), ((2,), (3,))])
        always = Question(("always",), left=("x",), right=("u",))
        self.assertEqual(list(tight_parts(always, "left", ((2,), (1,)))), [((1,),), ((2,),)])

    def test_in_part_and_two_at_a_time(self):
        rows = tuple((at,) for at in range(6))
        whole = list(tight_parts(UNLIKE, "left", rows))
        one, other = tight_parts(UNLIKE, "left", rows), tight_parts(UNLIKE, "left", rows)
        self.assertEqual(list(itertools.islice(one, 4)), whole[:4])
        self.assertEqual(list(zip(one, other)), list(zip(whole[4:], whole)))
        self.assertEqual(len(whole), 15)

    def test_streams_that_are_words(self):
        question = Question.of(("!=", "x", "u"), {"self": ("x",), "stream": ("u",), "rows": ("v",)})
        self.assertEqual(len(tight_part(question, "self", ((3,), (1,), (2,)))), 2)
        paper = part_paper(question, "stream", ((3,), (1,), (2,)))
        self.assertIs(is_part_paper(question, "stream", ((1,), (2,), (3,)), paper), True)

    def test_reasons_are_free(self):
        first = reasons_of(STAIRS, "left", STEPS[:3])
        first[STEPS[0]].clear()
        first.clear()
        self.assertEqual(len(reasons_of(STAIRS, "left", STEPS[:3])[STEPS[0]]["right"]), 2)


class Untrue(unittest.TestCase):
    """[0.17]: what is not true for this package either."""

    def test_no_single_row(self):
        self.assertFalse(any(is_covered(UNLIKE, "left", (1,), by=(one,)) for one in ((2,), (3,))))
        self.assertIs(is_covered(UNLIKE, "left", (1,), by=((2,), (3,))), True)

    def test_three_cover(self):
        rows = ((0, 4), (3, 8), (7, 12))
        self.assertIs(is_covered(WITHIN, "pair", (1, 11), by=rows), True)
        self.assertFalse(any(is_covered(WITHIN, "pair", (1, 11), by=two) for two in itertools.combinations(rows, 2)))

    def test_leaving_out_a_comparison(self):
        one = Question(("and", ("<", "x", "u"), ("<", "y", "v"), ("<", "v", "x")), left=("x", "y"), right=("u", "v"))
        rows = ((5, 5), (9, 1))
        self.assertEqual(len(tight_part(one, "left", rows)), 1)
        self.assertEqual(len(tight_part(STAIRS, "left", rows)), 2)


class Limits(unittest.TestCase):
    def calls(self, question, stream, rows):
        for call in ALL:
            if call is tight_parts:
                yield call, lambda: list(tight_parts(question, stream, rows))
            elif call is is_part_paper:
                yield call, lambda: is_part_paper(question, stream, rows, ("part", {}))
            else:
                yield call, lambda call=call: call(question, stream, rows)

    def check(self, question, stream, rows, limit, searched):
        for name, call in self.calls(question, stream, rows):
            right = limit or (searched if name in (tight_parts, least_part) else None)
            if right:
                with self.assertRaises(TooMany) as caught:
                    call()
                self.assertEqual(caught.exception.limit, right)
            elif name is reasons_of and not is_tight(question, stream, rows):
                with self.assertRaises(InvalidOperation):
                    call()
            else:
                call()

    def test_met_and_passed(self):
        for question, stream in ((WIDE, "left"), (WIDE, "right"), (STAIRS, "left")):
            self.check(question, stream, TWELVE[:8], None, None)
            self.check(question, stream, TWELVE[:8] * 2, None, None)
            self.check(question, stream, TWELVE[:9], None, 8)
            self.check(question, stream, TWELVE, None, 8)
            self.check(question, stream, TWELVE[:4] * 4, None, None)
            self.check(question, stream, (*TWELVE, (61, 61)), 12, 8)
            self.check(question, stream, (*TWELVE, (61, 61))[::-1] * 2, 12, 8)
        for stream in ("one", "two"):
            self.check(DEEP, stream, SIX, None, None)
            self.check(DEEP, stream, SIX * 2, None, None)
            self.check(DEEP, stream, (*SIX, (90,)), 6, 6)
            self.check(DEEP, stream, tuple((at,) for at in range(9)), 6, 6)
        self.check(DEEP, "some", TWELVE, None, 8)

    def test_twelve_tight_rows(self):
        self.assertIs(is_tight(STAIRS, "left", STEPS[:12]), True)
        self.assertEqual(tight_part(STAIRS, "left", STEPS[:12]), STEPS[:12])
        for row, rest in reasons_of(STAIRS, "left", STEPS[:12]).items():
            others = tuple(one for one in STEPS[:12] if one != row)
            self.assertIs(is_reason(STAIRS, "left", row, rest, beside=others), True)
        for rows in (STEPS, STEPS[::-1]):
            with self.assertRaises(TooMany):
                is_tight(STAIRS, "left", rows)
        self.assertIsNotNone(reason(STAIRS, "left", STEPS[3], beside=STEPS[4:]))
        self.assertEqual(compared(STAIRS, "left", STEPS[3], STEPS[4]), "apart")


class Wrong(unittest.TestCase):
    def test_one_and_two(self):
        wrong = [*wrong_start(STAIRS), wrong_rows(STAIRS, "left")]
        right = [STAIRS, "left", ((1, 9), (4, 2))]
        for call in ALL:
            if call is is_part_paper:
                check_wrong(self, call, [*right, ("part", {})], [*wrong, None])
            else:
                check_wrong(self, call, right, wrong, late=call is tight_parts)

    def test_not_tight(self):
        for question, stream, rows in (
                (WITHIN, "pair", PIECES), (WITHIN, "pair", ((4, 10), (0, 6))), (LESS, "left", ((1,), (2,))),
                (LESS, "left", ((1,), (1,))), (WITHIN, "pair", ((5, 5),))):
            expect(self, reasons_of, (question, stream, rows), {}, False, InvalidOperation, None, rows)

    def test_generator_raises_late(self):
        for rows in (tuple((at,) for at in range(9)), tuple((at,) for at in range(13))):
            begun = tight_parts(LESS, "left", rows)
            with self.assertRaises(TooMany) as caught:
                next(begun)
            self.assertEqual(caught.exception.limit, 8 if len(rows) == 9 else 12)

    def test_no_papers(self):
        rest = {"probe": (5,)}
        self.assertIs(is_part_paper(WITHIN, "pair", PIECES, ("part", {(0, 10): rest})), True)
        for value in (
                *EVERY, {(0, 10): rest}, ["part", {(0, 10): rest}], ("part", [((0, 10), rest)]), ("part", {(0, 10): rest}, 1),
                ("Part", {(0, 10): rest}), (None, {(0, 10): rest}), ("part",), ("part", {}), ("part", {(0, 9): rest}),
                ("part", {(0, 10): rest, (0, 6): rest}), ("part", {(0, 6): rest}), ("part", {(0, 10): {"probe": (0,)}}),
                ("part", {(0, 10): rest, None: rest}), ("part", {(False, 10): rest}), ("part", {"pair": rest}),
                ({(0, 10): rest}, "part"), "part", (LESS, {(0, 10): rest})):
            self.assertIs(is_part_paper(WITHIN, "pair", PIECES, value), False, value)
        for value in no_rests(WITHIN, "pair"):
            self.assertIs(is_part_paper(WITHIN, "pair", PIECES, ("part", {(0, 10): value})), False, value)
        for value in no_rows(1):
            if type(value) is tuple and value != (1,):
                try:
                    reasons = {value: {"right": (9,)}}
                except TypeError:
                    continue
                self.assertIs(is_part_paper(LESS, "left", ((1,),), ("part", reasons)), False, value)

    def test_true_is_no_integer(self):
        self.assertIs(is_part_paper(LESS, "left", ((1,),), ("part", {(1,): {"right": (2,)}})), True)
        self.assertIs(is_part_paper(LESS, "left", ((1,),), ("part", {(True,): {"right": (2,)}})), False)
        self.assertIs(is_part_paper(LESS, "left", ((0,),), ("part", {(0,): {"right": (True,)}})), False)

    def test_wrong_values_are_many(self):
        self.assertTrue(len(NO_QUESTIONS) > 20 and len(no_streams(STAIRS)) > 20)


if __name__ == "__main__":
    unittest.main()
