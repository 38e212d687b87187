"""[0.15] to [0.17], [10.1] to [10.3] and what the document says of needrows.few.needs."""
import itertools
import random
import unittest

from needrows.ask.questions import Question
from needrows.few.forget import rule_of
from needrows.few.needs import any_need, is_need, long_rise, needs, ringing
from needrows.rises.kinds import kinds
from needrows.rises.standard import placed_about, standard_rise, which_ring
from tests.asked import (
    DEEP, EVERY, LESS, STAIRS, UNLIKE, WIDE, WITHIN, check_wrong, flat, many_asked, no_rests, wrong_start)
from tests.rising import FALL, SIDE, UP, WRONG_KIND, clear_in, no_kinds, plain_rests, scenes


def need_in(asked, stream, kind, rest):
    """Whether a kind and a rest are a need by the definition."""
    first, middle, third = standard_rise(asked.question, stream, kind, 3)
    if not asked.rings(stream, middle, rest) or asked.rings(stream, first, rest) or asked.rings(stream, third, rest):
        return False
    columns = asked.streams[stream]
    return clear_in(columns, kind, first, flat(rest)) and clear_in(columns, kind, third, flat(rest))


def ringing_in(asked, stream, kind):
    """The triples of `ringing` by the definition."""
    many = asked.many_of_rest(stream) + 1
    rows = standard_rise(asked.question, stream, kind, 2 * many + 1)
    found = []
    for numbers in plain_rests(asked, stream, rows):
        rest = asked.rest_of(stream, numbers)
        told = [asked.rings(stream, row, rest) for row in rows]
        if told[many]:
            front = [step for step in range(1, many + 1) if told[many - step]]
            behind = [step for step in range(1, many + 1) if told[many + step]]
            found.append((rest, min(front, default=None), min(behind, default=None)))
    return found


class Needs(unittest.TestCase):
    def test_all(self):
        for asked, stream, some in scenes(91, 45, 2):
            for kind in some:
                three = standard_rise(asked.question, stream, kind, 3)
                plain = [asked.rest_of(stream, numbers) for numbers in plain_rests(asked, stream, three)]
                right = [("need", kind, rest) for rest in plain if need_in(asked, stream, kind, rest)]
                found = list(needs(asked.question, stream, kind))
                self.assertEqual(found, right, (asked.condition, kind))
                self.assertTrue(all(list(one[2]) == asked.others(stream) for one in found))
                self.assertTrue(all(is_need(asked.question, stream, one) for one in found[:9]))

    def test_is_need(self):
        source = random.Random(92)
        for asked, stream, some in scenes(93, 45, 2):
            for kind in some:
                three = standard_rise(asked.question, stream, kind, 3)
                rests = asked.rests(stream, three)
                for rest in source.sample(rests, min(40, len(rests))):
                    value = ("need", kind, {other: rest[other] for other in reversed(rest)})
                    self.assertIs(is_need(asked.question, stream, value), need_in(asked, stream, kind, rest))

    def test_any_need(self):
        for asked, stream, _ in scenes(94, 90, 1):
            found = any_need(asked.question, stream)
            some = [kind for kind in kinds(asked.question, stream) if list(needs(asked.question, stream, kind))]
            if found is None:
                self.assertEqual(some, [])
            else:
                self.assertIn(found[1], some)
                self.assertIs(is_need(asked.question, stream, found), True)

    def test_examples(self):
        self.assertEqual([any_need(LESS, one) for one in ("left", "right")], [None, None])
        self.assertEqual([any_need(UNLIKE, one) for one in ("left", "right")], [None, None])
        for question, stream in ((STAIRS, "left"), (STAIRS, "right"), (WITHIN, "pair"), (WITHIN, "probe")):
            self.assertIs(is_need(question, stream, any_need(question, stream)), True)
        self.assertEqual([one[2]["probe"] for one in needs(WITHIN, "pair", SIDE)], [(9,)])
        told = [is_need(WITHIN, "pair", ("need", SIDE, {"probe": (number,)})) for number in range(6, 15)]
        self.assertEqual(told, [False, False, False, True, True, True, False, False, False])
        always = Question(("always",), left=("x",), right=("u",))
        self.assertEqual([any_need(always, "left"), any_need(always.with_condition(("never",)), "left")], [None, None])

    def test_no_needs(self):
        rest = {"probe": (10,)}
        for value in (
                *EVERY, ["need", SIDE, rest], ("need", SIDE), ("need", SIDE, rest, 1), ("Need", SIDE, rest), (SIDE, rest),
                ("need", rest, SIDE), ("rule", SIDE, rest), (None, SIDE, rest), ("need", SIDE, (("probe", (10,)),)),
                ("need", UP, rest), ("need", (), rest), ("need", SIDE, {"pair": (1, 2)}), (LESS, SIDE, rest)):
            self.assertIs(is_need(WITHIN, "pair", value), False, value)
        for value in no_rests(WITHIN, "pair"):
            self.assertIs(is_need(WITHIN, "pair", ("need", SIDE, value)), False, value)
        for value in no_kinds(FALL):
            self.assertIs(is_need(STAIRS, "left", ("need", value, {"right": (5, 9)})), False, value)
        self.assertIs(is_need(STAIRS, "left", ("need", FALL, {"right": (5, 17)})), True)

    def test_many_rows(self):
        """[0.16]: a need tells for each number of rows that each of them rings with a rest of its own alone."""
        for asked, stream, _ in scenes(95, 40, 1):
            found = any_need(asked.question, stream)
            for many in (2, 9) if found else ():
                rows = standard_rise(asked.question, stream, found[1], many)
                for index in range(many):
                    rest = placed_about(asked.question, stream, found[1], found[2], many, index)
                    right = tuple(at == index for at in range(many))
                    self.assertEqual(which_ring(asked.question, stream, rows, rest), right)


class Long(unittest.TestCase):
    def test_long_rise(self):
        for asked, stream, some in scenes(96, 27, 3):
            for kind in some:
                many = 2 * asked.many_of_rest(stream) + 3
                right = standard_rise(asked.question, stream, kind, many)
                self.assertEqual(long_rise(asked.question, stream, kind), right)
        self.assertEqual([len(long_rise(DEEP, "one", kind)) for kind in kinds(DEEP, "one")], [9, 9])

    def test_ringing(self):
        # Beside three columns there are too many plain rests for the oracle here: those are tried in another test.
        for asked, stream, some in scenes(97, 36, 1, 2):
            for kind in some:
                found = list(ringing(asked.question, stream, kind))
                self.assertEqual(found, ringing_in(asked, stream, kind), (asked.condition, kind))

    def test_which_have_needs(self):
        """[10.3]: by the long rise the same kinds have needs as by the standard rise of three rows."""
        for asked, stream, some in scenes(98, 45, 3):
            for kind in some:
                lone = any(front is None and behind is None for _, front, behind in ringing(asked.question, stream, kind))
                self.assertIs(lone, bool(list(needs(asked.question, stream, kind))))

    def test_ringing_examples(self):
        self.assertEqual([front for _, front, _ in ringing(LESS, "left", UP)], [1] * len(list(ringing(LESS, "left", UP))))
        self.assertEqual(
            list(ringing(UNLIKE, "left", UP))[:3],
            [({"right": (-1,)}, 1, 1), ({"right": (0,)}, 1, 1), ({"right": (1,)}, 1, 1)])
        self.assertEqual([one for one in ringing(UNLIKE, "left", UP) if one[0] == {"right": (4,)}], [({"right": (4,)}, 2, 1)])
        self.assertEqual([one[1:] for one in ringing(WITHIN, "pair", SIDE)], [(None, None)])


class Generators(unittest.TestCase):
    def test_in_part_and_two_at_a_time(self):
        first = next(kinds(DEEP, "one"))
        for call, question, stream, kind in ((needs, DEEP, "one", first), (ringing, STAIRS, "left", FALL)):
            whole = list(call(question, stream, kind))
            self.assertGreater(len(whole), 5)
            one, other = call(question, stream, kind), call(question, stream, kind)
            self.assertEqual(list(itertools.islice(one, 3)), whole[:3])
            self.assertEqual(list(zip(one, other)), list(zip(whole[3:], whole)))
            seen = []
            for found in call(question, stream, kind):
                rest = [part for part in found if type(part) is dict][0]
                seen.append(dict(rest))
                rest.clear()
            self.assertEqual(seen, [part for found in whole for part in found if type(part) is dict])


class Greatest(unittest.TestCase):
    def test_wide(self):
        for kind in kinds(WIDE, "left"):
            for need in itertools.islice(needs(WIDE, "left", kind), 3):
                self.assertIs(is_need(WIDE, "left", need), True)
            rows = long_rise(WIDE, "left", kind)
            for rest, front, behind in itertools.islice(ringing(WIDE, "left", kind), 0, None, 97):
                self.check(WIDE, "left", rows, rest, front, behind)

    def test_deep(self):
        for stream in ("one", "two"):
            self.assertIs(any_need(DEEP, stream) is None, stream == "two")
            for kind in kinds(DEEP, stream):
                rows = long_rise(DEEP, stream, kind)
                self.assertEqual(len(rows), 9)
                before = None
                for rest, front, behind in itertools.islice(ringing(DEEP, stream, kind), 0, None, 31):
                    self.check(DEEP, stream, rows, rest, front, behind)
                    self.assertTrue(before is None or before < flat(rest))
                    before = flat(rest)

    def check(self, question, stream, rows, rest, front, behind):
        told = which_ring(question, stream, rows, rest)
        middle = len(rows) // 2
        self.assertIs(told[middle], True)
        self.assertEqual(front, next((step for step in range(1, middle + 1) if told[middle - step]), None))
        self.assertEqual(behind, next((step for step in range(1, middle + 1) if told[middle + step]), None))


class OneOrTheOther(unittest.TestCase):
    def test_needs_or_rules(self):
        """[0.16]: each kind has a need or a rule, and never both."""
        for asked, stream, _ in scenes(99, 54, 1):
            for kind in kinds(asked.question, stream):
                need, rule = list(needs(asked.question, stream, kind)), rule_of(asked.question, stream, kind)
                self.assertIs(bool(need), rule is None, (asked.condition, kind))
        for question, stream in ((WIDE, "left"), (WIDE, "right"), (DEEP, "one"), (DEEP, "some"), (DEEP, "two")):
            for kind in kinds(question, stream):
                self.assertIs(bool(list(needs(question, stream, kind))), rule_of(question, stream, kind) is None)


class Untrue(unittest.TestCase):
    def test_and_of_conditions_that_keep_few(self):
        for stream in ("left", "right"):
            for sides in (("x", "u"), ("y", "v")):
                self.assertIsNone(any_need(STAIRS.with_condition(("<", *sides)), stream))
            self.assertIsNotNone(any_need(STAIRS, stream))

    def test_more_comparisons_can_need_fewer_rows(self):
        self.assertIsNone(any_need(STAIRS.with_condition(("and", STAIRS.condition, ("=", "x", 1), ("=", "y", 1))), "left"))


class Wrong(unittest.TestCase):
    def test_one_and_two(self):
        start = wrong_start(STAIRS)
        check_wrong(self, is_need, [STAIRS, "left", None], [*start, None])
        check_wrong(self, any_need, [STAIRS, "left"], start)
        check_wrong(self, long_rise, [STAIRS, "left", FALL], [*start, WRONG_KIND])
        for call in (needs, ringing):
            check_wrong(self, call, [STAIRS, "left", FALL], [*start, WRONG_KIND], late=True)

    def test_streams_that_are_words(self):
        question = Question.of(("and", ("<", "x", "u"), ("<", "u", "y")), {"self": ("x", "y"), "question": ("u",)})
        self.assertEqual(list(needs(question, "self", SIDE)), [("need", SIDE, {"question": (9,)})])
        self.assertEqual(len(many_asked(5, 2)), 2)


if __name__ == "__main__":
    unittest.main()
