"""Inputs that once took long: their answers, and that they do not take so long again.

Times are compared with those of a plain walk over a condition on the same machine, the least of many runs each:
so neither a slow machine nor a busy one fails a test.
"""
import itertools
import time
import unittest

from needrows.base.conditions import columns_of, holds, holds_for, is_condition
from needrows.base.numbers import Line
from needrows.base.reasoning import follows, is_never, solutions, trimmed
from tests.helpers import columns_in, comparisons_in, idle_in, judge, order_of, truths
from tests.test_numbers import alike, is_canonical

MANY = ("and", ("or", ("<", "a", "b"), ("<", "b", "c")), ("or", ("<", "c", "d"), ("=", "a", 1), ("<", "d", 3)),
        ("not", ("and", ("<", "a", 0), ("<=", "b", "d"))))
ALL = ("and", ("always",), ("<", "a", 1), ("<", "b", 1), ("<", "c", 1), ("<", "d", 1))
CLIMB = ("and", ("<", "a", "b"), ("<", "b", "c"), ("<", "c", 3), ("<", 0, "a"))
NUMBERS = {"a": 1, "b": 2, "c": 3, "d": 4}
LINE = Line(0, 5, 9)
ROUNDS = 60


def walk(value):
    """What the times are measured by: the parts of a condition, one by one, and the letters of its names."""
    waiting = [(value, 1)]
    names = {}
    while waiting:
        part, deep = waiting.pop()
        if part[0] in ("not", "and", "or"):
            for inner in part[1:]:
                waiting.append((inner, deep + 1))
        for term in part[1:]:
            if isinstance(term, str) and all(["a" <= letter <= "z" for letter in term]):
                names[term] = True
    return names


def least_time(call, times):
    start = time.perf_counter()
    for _ in range(times):
        call()
    return (time.perf_counter() - start) / times


class Answers(unittest.TestCase):
    def test_placements(self):
        for given, many, length in (((0, 1, 2, 3), 4, 2548), ((1, 2), 4, 932), ((0, 1, 2, 3), 3, 300)):
            found = list(Line(*given).placements(many))
            near = range(min(given) - many, max(given) + many + 1)
            right = [one for one in itertools.product(near, repeat=many) if is_canonical(given, one)]
            self.assertEqual(found, right)
            self.assertEqual(len(found), length)

    def test_line(self):
        self.assertIs(LINE.are_alike((1, 2, 3, 7, 12), (1, 2, 3, 7, 13)), True)
        self.assertIs(alike((0, 5, 9), (1, 2, 3, 7, 12), (1, 2, 3, 7, 13)), True)
        self.assertEqual(LINE.canonical_of((1, 2, 3, 7, 12)), (1, 2, 3, 6, 10))

    def test_line_against_definition(self):
        for given in ((), (0,), (0, 3), (-2, 4, 5)):
            line = Line(*given)
            every = list(itertools.product(range(-3, 6), repeat=2))
            for one in every:
                moved = line.canonical_of(one)
                self.assertTrue(is_canonical(given, moved) and alike(given, one, moved), (given, one))
                for other in every[::3]:
                    self.assertIs(line.are_alike(one, other), alike(given, one, other), (given, one, other))

    def test_conditions(self):
        self.assertEqual([is_condition(MANY), columns_of(MANY)], [True, ("a", "b", "c", "d")])
        told = judge(MANY, "abcd")
        for numbers in itertools.product((-1, 0, 1, 3), repeat=4):
            given = dict(zip("abcd", numbers))
            self.assertEqual([holds_for(MANY, given), holds(MANY, **given)], [told(*numbers)] * 2)

    def test_reasoning(self):
        told = judge(MANY, "abcd")
        found = [tuple(one.values()) for one in solutions(MANY)]
        points = (0, 1, 2, 3)
        every = list(itertools.product(range(-4, 8), repeat=4))
        right = {order_of(one, points) for one in every if told(*one)}
        self.assertTrue(all(told(*one) for one in found))
        self.assertEqual([len(found), {order_of(one, points) for one in found}], [1412, right])
        short = trimmed(MANY)
        self.assertEqual(truths(short, columns_in(MANY)), truths(MANY, columns_in(MANY)))
        self.assertEqual([idle_in(short), set(comparisons_in(short)) <= set(comparisons_in(MANY))], [(), True])
        self.assertEqual([follows(ALL, ALL), is_never(CLIMB), is_never(("and", CLIMB, ("<", "c", 2)))], [True, True, True])
        self.assertIs(is_never(("and", ("<", "a", "b"), ("<", "b", 3), ("<", 0, "a"))), False)


class Times(unittest.TestCase):
    def check(self, call, limit, times):
        """The call takes at most so many times what the walk takes, `times` calls at a time."""
        walks = max(1, int(limit * times))
        least = least_walk = None
        for turn in range(ROUNDS):
            some, other = least_time(call, times), least_time(lambda: walk(MANY), min(walks, 300))
            least = some if least is None else min(least, some)
            least_walk = other if least_walk is None else min(least_walk, other)
            if turn >= 4 and least <= limit * least_walk:
                return
        self.fail(f"takes {least / least_walk:.2f} walks, at most {limit}")

    def test_numbers(self):
        self.check(lambda: list(Line(0, 1, 2, 3).placements(4)), 500, 1)
        self.check(lambda: list(Line(1, 2).placements(4)), 210, 1)
        self.check(lambda: list(Line(0, 1, 2, 3).placements(3)), 55, 3)
        self.check(lambda: LINE.are_alike((1, 2, 3, 7, 12), (1, 2, 3, 7, 13)), 1.0, 100)
        self.check(lambda: LINE.canonical_of((1, 2, 3, 7, 12)), 0.6, 100)

    def test_conditions(self):
        self.check(lambda: is_condition(MANY), 1.2, 100)
        self.check(lambda: columns_of(MANY), 1.6, 100)
        self.check(lambda: holds_for(MANY, NUMBERS), 2.2, 100)
        self.check(lambda: holds(MANY, **NUMBERS), 2.2, 100)

    def test_reasoning(self):
        self.check(lambda: list(solutions(MANY)), 1000, 1)
        self.check(lambda: trimmed(MANY), 300, 1)
        self.check(lambda: follows(ALL, ALL), 70, 3)
        self.check(lambda: is_never(CLIMB), 40, 5)


if __name__ == "__main__":
    unittest.main()
