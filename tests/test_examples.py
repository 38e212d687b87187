"""The examples of the document, as they stand there."""
import doctest
import unittest

from needrows.base import conditions, numbers, reasoning

NUMBERS = """
>>> line = Line(7, 5)
>>> [line.given, line(6), line(9), line.room(2), line.room(0), list(line.placements(1)), line.canonical(9, 6, 20, -3)]
[(5, 7), 2, 4, 1, None, [(4,), (5,), (6,), (7,), (8,)], (8, 6, 9, 4)]
>>> [list(Line().placements(2)), Line(0).are_alike((3, 4), (1, 9)), Line(0).are_alike((3, 4), (4, 3))]
[[(0, 0), (0, 1), (1, 0)], True, False]
"""

CONDITIONS = """
>>> short = ("not", ("or", ("<", "x", 2), ("!=", "x", "u")))
>>> [columns_of(short), points_of(short), holds(short, x=2, u=2), negated(short), without_not(short), depth(short)]
[('u', 'x'), (2,), True, ('or', ('<', 'x', 2), ('!=', 'x', 'u')), ('and', ('<=', 2, 'x'), ('=', 'x', 'u')), 3]
>>> [simplified(("and", ("<=", "x", "x"), ("<", "x", "u"))), mirrored(("<", "x", 1)), renamed(short, x="u")[1][2], len(list(parts_of(short)))]
[('<', 'x', 'u'), ('<', 2, 'x'), ('!=', 'u', 'u'), 4]
"""

REASONING = """
>>> [is_never(("and", ("<", "x", 1), ("<", 0, "x"))), follows(("<", "x", "u"), ("<=", "x", "u")), are_equal(("not", ("<", "x", "u")), ("<=", "u", "x"))]
[True, True, True]
>>> some = ("or", ("<", "x", 2), ("and", ("<=", 2, "x"), ("=", "x", "u")))
>>> [idle_comparisons(some), len(list(solutions(("<", "x", "u")))), solution(("=", "x", 3)), parting_numbers(("=", "x", 3), ("=", "x", 2)) in ({"x": 2}, {"x": 3})]
[(('<=', 2, 'x'),), 1, {'x': 3}, True]
"""


class Examples(unittest.TestCase):
    def check(self, module, text):
        test = doctest.DocTestParser().get_doctest(text, dict(vars(module)), module.__name__, None, 0)
        told = []
        doctest.DocTestRunner().run(test, out=told.append)
        self.assertEqual("".join(told), "")
        self.assertGreater(len(test.examples), 1)

    def test_numbers(self):
        self.check(numbers, NUMBERS)

    def test_conditions(self):
        self.check(conditions, CONDITIONS)

    def test_reasoning(self):
        self.check(reasoning, REASONING)


if __name__ == "__main__":
    unittest.main()
