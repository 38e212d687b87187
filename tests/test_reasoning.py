"""[3.1] to [3.3]: needrows.base.reasoning, also by brute force over all orders."""
import itertools
import random
import unittest

from needrows.base.conditions import holds_for, is_condition, negated
from needrows.base.numbers import Line
from needrows.base.reasoning import (
    are_equal, follows, idle_comparisons, is_always, is_never, parting_numbers, solution, solutions, trimmed)
from needrows.errors import InvalidCondition, TooMany
from tests.helpers import (
    EIGHT_DEEP, FAR, FORTY, FOUR_COLUMNS, RIGHT_CONDITIONS, WRONG_CONDITIONS, columns_in, comparisons_in, idle_in,
    is_whole, judge, order_of, random_condition, random_conditions, truths, wide, window)

LESS = ("<", "x", "u")
SMALL = random_conditions(21, 150, ("a", "b"))
FOUR = random_conditions(22, 12, ("a", "b", "c", "d"), 5)
NONE = (("always",), ("never",), ("not", ("or", ("never",), ("never",))), ("and", ("always",), ("never",)))
MANY = (*SMALL, *FOUR, *NONE)
WITH_ONE = (solution, is_always, is_never, idle_comparisons, trimmed)
WITH_TWO = (follows, are_equal, parting_numbers)


def points_in(condition):
    written = [term for one in comparisons_in(condition) for term in one[1:] if is_whole(term)]
    return tuple(range(min(written), max(written) + 1)) if written else ()


class OneCondition(unittest.TestCase):
    def check_numbers(self, numbers, columns):
        self.assertIs(type(numbers), dict)
        self.assertEqual(list(numbers), columns)
        self.assertTrue(all(map(is_whole, numbers.values())))

    def test_against_oracle(self):
        for condition in MANY:
            columns = columns_in(condition)
            told = truths(condition, columns)
            self.assertIs(is_always(condition), all(told), condition)
            self.assertIs(is_never(condition), not any(told), condition)
            found = solution(condition)
            if any(told):
                self.check_numbers(found, columns)
                self.assertTrue(judge(condition, columns)(*found.values()))
            else:
                self.assertIsNone(found)

    def test_solutions(self):
        for condition in MANY:
            columns, points = columns_in(condition), points_in(condition)
            told = judge(condition, columns)
            right = {order_of(numbers, points) for numbers in window(columns) if told(*numbers)}
            found = []
            for numbers in solutions(condition):
                self.check_numbers(numbers, columns)
                self.assertTrue(told(*numbers.values()))
                found.append(order_of(tuple(numbers.values()), points))
            self.assertEqual(len(found), len(set(found)), condition)
            self.assertEqual(set(found), right, condition)

    def test_examples(self):
        self.assertEqual([len(list(solutions(one))) for one in (LESS, ("=", "x", 3), ("!=", "x", 3))], [1, 1, 2])
        self.assertEqual(len(list(solutions(("or", ("<=", 0, "x"), ("<", "x", 3))))), 6)
        self.assertEqual([solution(("always",)), list(solutions(("always",)))], [{}, [{}]])
        self.assertEqual([solution(("never",)), list(solutions(("never",)))], [None, []])
        self.assertEqual([is_always(("always",)), is_never(("always",))], [True, False])
        self.assertEqual([is_always(("=", "x", "x")), is_never(("<", "x", "x"))], [True, True])
        self.assertIs(is_never(("and", ("<", 1, "x"), ("<", "x", 2))), True)
        self.assertIs(is_never(("and", ("<", "x", "u"), ("<", 0, "x"), ("<", "u", 2))), True)
        self.assertIs(is_never(("and", ("<", "x", "u"), ("<", 0, "x"), ("<", "u", 3))), False)
        self.assertIs(is_never(("and", ("<", "x", "u"), ("<", "u", "v"), ("<", 0, "x"), ("<", "v", 3))), True)
        self.assertEqual(len(list(solutions(("not", ("and", ("<", "a", "a"), ("=", "b", "c"), ("=", "d", 0)))))), 541)

    def test_bounds(self):
        for condition in RIGHT_CONDITIONS:
            self.assertIs(is_never(condition), is_always(negated(condition)))
        self.assertEqual([is_always(FORTY), is_never(FORTY), is_never(EIGHT_DEEP)], [False, False, False])
        self.assertIs(solution(FORTY)["x"] < 1, True)

    def test_four_columns_are_tried(self):
        self.assertGreater(sum(len(columns_in(condition)) == 4 for condition in FOUR[:5]), 2)

    def test_in_part_and_two_at_a_time(self):
        condition = ("or", ("<", "a", "b"), ("=", "c", 1))
        whole = list(solutions(condition))
        one, other = solutions(condition), solutions(condition)
        first = list(itertools.islice(one, 4))
        pairs = list(zip(one, other))
        self.assertEqual(first, whole[:4])
        self.assertEqual(pairs, list(zip(whole[4:], whole)))
        self.assertEqual(list(solutions(condition)), whole)

    def test_dicts_are_free(self):
        whole = list(solutions(("<=", "x", "u")))
        seen = []
        for numbers in solutions(("<=", "x", "u")):
            seen.append(dict(numbers))
            numbers["x"] = FAR
            numbers.pop("u")
        self.assertEqual(seen, whole)


class TwoConditions(unittest.TestCase):
    def pairs(self):
        source = random.Random(23)
        for one in SMALL[:90]:
            yield one, source.choice(SMALL)
            other = random_condition(source, ("b", "c"), 3)
            yield one, other
            yield one, ("and", one, other) if is_condition(("and", one, other)) else other
        for one in FOUR[:4]:
            yield one, source.choice(FOUR)
        yield from itertools.product(NONE, (*NONE, LESS))
        yield ("<", "x", 1), ("<=", "x", 0)
        yield ("=", "x", 0), ("and", ("<", "x", 3), ("=", "x", 0))
        yield ("and", ("<", 0, "x"), ("<", "x", 2)), ("=", "x", 1)
        yield ("<", 0, "x"), ("<", "x", 3)

    def test_against_oracle(self):
        for one, other in self.pairs():
            columns = columns_in(one, other)
            left, right = truths(one, columns), truths(other, columns)
            self.assertIs(follows(one, other), all(b for a, b in zip(left, right) if a), (one, other))
            self.assertIs(follows(other, one), all(a for a, b in zip(left, right) if b), (one, other))
            self.assertIs(are_equal(one, other), left == right, (one, other))
            found = parting_numbers(one, other)
            if left == right:
                self.assertIsNone(found)
            else:
                self.assertEqual(list(found), columns)
                self.assertTrue(all(map(is_whole, found.values())))
                values = tuple(found.values())
                self.assertNotEqual(judge(one, columns)(*values), judge(other, columns)(*values))

    def test_examples(self):
        self.assertEqual([follows(LESS, ("!=", "x", "u")), follows(("!=", "x", "u"), LESS)], [True, False])
        self.assertIs(follows(("never",), LESS), True)
        self.assertIs(follows(LESS, ("always",)), True)
        self.assertIs(are_equal(("=", "x", "x"), ("=", "u", "u")), True)
        self.assertEqual(list(parting_numbers(("=", "x", "x"), ("!=", "a", "a"))), ["a", "x"])
        self.assertEqual(parting_numbers(("always",), ("never",)), {})
        self.assertIs(are_equal(("<", "x", 1), ("<=", "x", 0)), True)
        self.assertIs(follows(("and", ("<", 0, "x"), ("<", "x", 3)), ("or", ("=", "x", 1), ("=", "x", 2))), True)

    def test_four_and_five_columns(self):
        four, five = ("<", "d", "a"), ("<", "d", "e")
        self.assertIs(follows(FOUR_COLUMNS, four), False)
        self.assertIs(follows(FOUR_COLUMNS, ("<", "c", "d")), True)
        for call in WITH_TWO:
            for arguments in ((FOUR_COLUMNS, five), (five, FOUR_COLUMNS), (FOUR_COLUMNS, ("=", "e", "e"))):
                with self.assertRaises(TooMany) as caught:
                    call(*arguments)
                self.assertEqual(caught.exception.limit, 4)


class Idle(unittest.TestCase):
    def test_against_definition(self):
        for condition in (*SMALL, *FOUR[:5], *NONE):
            self.assertEqual(idle_comparisons(condition), idle_in(condition), condition)

    def test_examples(self):
        one, same = ("<", "x", 1), ("<=", "x", 0)
        self.assertEqual(idle_comparisons(("and", one, same, one)), (one, same))
        self.assertEqual(idle_comparisons(("or", LESS, ("and", LESS, ("=", "a", "b")))), (("=", "a", "b"),))
        self.assertEqual(idle_comparisons(("or", ("<", "x", "x"), LESS)), (("<", "x", "x"),))
        self.assertEqual(idle_comparisons(("and", LESS, LESS)), ())
        self.assertEqual([idle_comparisons(("always",)), idle_comparisons(LESS)], [(), ()])
        self.assertEqual(idle_comparisons(("and", ("=", "x", "u"), ("=", "u", "x"))), (("=", "x", "u"), ("=", "u", "x")))
        self.assertEqual(idle_comparisons(("or", LESS, ("not", LESS))), (LESS,))

    def check_trimmed(self, condition):
        short = trimmed(condition)
        columns = columns_in(condition)
        self.assertIs(is_condition(short), True, condition)
        self.assertEqual(truths(short, columns), truths(condition, columns), condition)
        self.assertLessEqual(set(comparisons_in(short)), set(comparisons_in(condition)))
        self.assertEqual(idle_in(short), (), condition)

    def test_trimmed(self):
        for condition in (*SMALL, *FOUR[:5], *NONE):
            self.check_trimmed(condition)

    def test_not_all_idle_ones_together(self):
        one, same = ("<", "x", 1), ("<=", "x", 0)
        self.assertIn(trimmed(("and", one, same)), (one, same))
        self.assertEqual(comparisons_in(trimmed(("or", LESS, ("not", LESS)))), [])
        self.assertEqual(trimmed(LESS), LESS)

    def test_many_comparisons(self):
        leaves = [(sign, *terms) for sign in ("<", "<=", "=") for terms in itertools.permutations(("a", "b", 1), 2)]
        leaves = [leaf for leaf in leaves if leaf[1] != leaf[2]] + [("=", "b", 2), ("<", "b", 3)]
        condition = ("and", *(("or", *leaves[at:at + 5]) for at in (0, 4, 8, 12)), *leaves[-2:])
        self.assertIs(is_condition(condition), True)
        self.assertEqual(idle_comparisons(condition), idle_in(condition))
        self.check_trimmed(condition)
        self.check_trimmed(wide((6, 6, 6, 5, 5, 5), ("<=", "b", "a")))


class Wrong(unittest.TestCase):
    def test_one(self):
        for value in (*WRONG_CONDITIONS, Line(1), solutions(LESS)):
            for call in WITH_ONE:
                with self.assertRaises(InvalidCondition):
                    call(value)
            begun = solutions(value)
            with self.assertRaises(InvalidCondition):
                next(begun)

    def test_two(self):
        for value in (*WRONG_CONDITIONS, Line(1)):
            for call in WITH_TWO:
                for arguments in (
                        (value, LESS), (LESS, value), (value, value), (value, FOUR_COLUMNS), (FOUR_COLUMNS, value)):
                    with self.assertRaises(InvalidCondition):
                        call(*arguments)


class Again(unittest.TestCase):
    def test_equal_calls(self):
        for one, other in zip(SMALL[:50], SMALL[50:]):
            self.assertEqual([call(one) for call in WITH_ONE], [call(one) for call in WITH_ONE])
            self.assertEqual([call(one, other) for call in WITH_TWO], [call(one, other) for call in WITH_TWO])
            self.assertEqual(list(solutions(one)), list(solutions(one)))
            self.assertTrue(all(holds_for(one, numbers) for numbers in solutions(one)))


if __name__ == "__main__":
    unittest.main()
