"""The examples of the document, as they stand there, and those of README.md."""
import doctest
import pathlib
import unittest

from needrows.ask import logs, questions
from needrows.base import conditions, numbers, reasoning
from needrows.cover import regions, tight
from needrows.few import forget, found, needs, papers, pasts
from needrows.keep import counts, keepers, states
from needrows.rises import kinds, standard
from needrows.text import formats, shell
from tests.asked import NAMES

NUMBERS = """
>>> line = Line(7, 5)
>>> [line.given, line(6), line(9), line.room(2), line.room(0), list(line.placements(1)), line.canonical(9, 6, 20, -3)]
[(5, 7), 2, 4, 1, None, [(4,), (5,), (6,), (7,), (8,)], (8, 6, 9, 4)]
>>> [list(Line().placements(2)), Line(0).are_alike((3, 4), (1, 9)), Line(0).are_alike((3, 4), (4, 3))]
[[(0, 0), (0, 1), (1, 0)], True, False]
"""

CONDITIONS = """
>>> short = ("not", ("or", ("<", "x", 2), ("!=", "x", "u")))
>>> [columns_of(short), points_of(short), holds(short, x=2, u=2), negated(short), without_not(short), depth(short)]
[('u', 'x'), (2,), True, ('or', ('<', 'x', 2), ('!=', 'x', 'u')), ('and', ('<=', 2, 'x'), ('=', 'x', 'u')), 3]
>>> [simplified(("and", ("<=", "x", "x"), ("<", "x", "u"))), mirrored(("<", "x", 1)), renamed(short, x="u")[1][2], len(list(parts_of(short)))]
[('<', 'x', 'u'), ('<', 2, 'x'), ('!=', 'u', 'u'), 4]
"""

REASONING = """
>>> [is_never(("and", ("<", "x", 1), ("<", 0, "x"))), follows(("<", "x", "u"), ("<=", "x", "u")), are_equal(("not", ("<", "x", "u")), ("<=", "u", "x"))]
[True, True, True]
>>> some = ("or", ("<", "x", 2), ("and", ("<=", 2, "x"), ("=", "x", "u")))
>>> [idle_comparisons(some), len(list(solutions(("<", "x", "u")))), solution(("=", "x", 3)), parting_numbers(("=", "x", 3), ("=", "x", 2)) in ({"x": 2}, {"x": 3})]
[(('<=', 2, 'x'),), 1, {'x': 3}, True]
"""

QUESTIONS = """
>>> [STAIRS.streams, STAIRS.columns_of("left"), STAIRS.rest_columns("left"), WITHIN.others("pair"), STAIRS.points]
[('left', 'right'), ('x', 'y'), ('u', 'v'), ('probe',), ()]
>>> [LESS({"left": (1,), "right": (2,)}), (LESS & UNLIKE).condition, LESS.with_columns(x="a").condition, str(STAIRS)]
[True, ('and', ('<', 'x', 'u'), ('!=', 'x', 'u')), ('<', 'a', 'u'), 'question of 2 streams, 4 columns']
"""

LOGS = """
>>> log = (("left", (1, 9)), ("right", (5, 9)), ("left", (4, 2)), ("right", (5, 3)))
>>> [rows_of(STAIRS, "right", log), rings(STAIRS, log), first_ring(STAIRS, log), rest_rings(STAIRS, "left", (1, 9), {"right": (5, 10)})]
[((5, 3), (5, 9)), True, 2, True]
>>> list(matches(STAIRS, log))
[{'left': (4, 2), 'right': (5, 3)}, {'left': (4, 2), 'right': (5, 9)}]
"""

REGIONS = """
>>> [reason(WITHIN, "pair", (0, 10), beside=((0, 6), (6, 10))), is_covered(WITHIN, "pair", (0, 10), by=((0, 6), (4, 10)))]
[{'probe': (6,)}, True]
>>> [least_cover(UNLIKE, "left", (1,), by=((3,), (2,))), least_cover(WITHIN, "pair", (5, 5)), compared(LESS, "left", (3,), (5,))]
[((2,), (3,)), (), 'around']
>>> [is_reason(LESS, "left", (3,), {"right": (number,)}, beside=((5,),)) for number in (3, 4, 6)]
[False, True, False]
"""

TIGHT = """
>>> pieces = ((0, 6), (0, 10), (4, 10))
>>> [list(tight_parts(WITHIN, "pair", pieces)), is_tight(WITHIN, "pair", pieces[::2]), least_part(WITHIN, "pair", pieces)]
[[((0, 6), (4, 10)), ((0, 10),)], True, ((0, 10),)]
>>> [is_part_paper(WITHIN, "pair", pieces, ("part", {(0, 10): {"probe": (5,)}})), loose_row(LESS, "left", ((2,), (5,)))]
[True, (5,)]
>>> len(tight_part(UNLIKE, "left", ((3,), (1,), (2,), (2,))))
2
"""

KINDS = """
>>> [list(kinds(LESS, "left")), number_of_kinds(STAIRS, "left"), number_of_kinds(Question(("<", "x", 3), a=("x",), b=("y",)), "a")]
[[((), (), (('up', (('x',),)),))], 11, 2]
>>> stairs = ((0, 20), (4, 16), (8, 12))
>>> [kind_of(STAIRS, "left", stairs), are_uniform(STAIRS, "left", stairs), kind_of(STAIRS, "left", stairs[::-1])]
[((), (), (('up', (('x',),)), ('down', (('y',),)))), True, None]
"""

STANDARD = """
>>> climb = kind_of(STAIRS, "left", ((0, 20), (4, 16), (8, 12)))
>>> [standard_rise(STAIRS, "left", climb, 3), spans(STAIRS, "left", climb, ((0, 20), (4, 16), (8, 12)), 1)]
[((0, 20), (4, 16), (8, 12)), ((4, 4), (16, 16))]
>>> [is_clear(STAIRS, "left", climb, ((0, 20), (4, 16), (8, 12)), 0, {"right": (5, 17)}), which_ring(STAIRS, "left", ((0, 20), (4, 16), (8, 12)), {"right": (5, 17)})]
[True, (False, True, False)]
>>> far = placed_about(STAIRS, "left", climb, {"right": (5, 17)}, 5, 3)
>>> which_ring(STAIRS, "left", standard_rise(STAIRS, "left", climb, 5), far)
(False, False, False, True, False)
"""

NEEDS = """
>>> [is_need(WITHIN, "pair", ("need", SIDE, {"probe": (10,)})), is_need(WITHIN, "pair", ("need", SIDE, {"probe": (8,)})), list(needs(WITHIN, "pair", SIDE))[0][2]]
[True, False, {'probe': (9,)}]
>>> [any_need(LESS, "left"), long_rise(LESS, "left", UP), list(ringing(LESS, "left", UP))[0]]
[None, ((0,), (4,), (8,), (12,), (16,)), ({'right': (9,)}, 1, None)]
"""

FORGET = """
>>> [[one[2:] for one in least_rules(LESS, "left", UP)], [one[2:] for one in least_rules(UNLIKE, "left", UP)], rules(WITHIN, "pair", SIDE), rule_of(WITHIN, "pair", SIDE)]
[[(1, 0)], [(0, 2), (1, 1), (2, 0)], (), None]
>>> [cover_of(UNLIKE, "left", ("rule", UP, 1, 1), ((2,), (3,), (70,)), 1), forgotten(LESS, "left", ("rule", UP, 1, 0), ((2,), (3,), (70,)))]
[((2,), (70,)), (1, 2)]
"""

PAPERS = """
>>> [is_few(LESS, "left"), needy_streams(STAIRS), needy_streams(WITHIN), stream_paper(WITHIN, "probe")[0]]
[True, ('left', 'right'), ('pair', 'probe'), 'need']
>>> is_stream_paper(LESS, "left", ("few", (("rule", ((), (), (("up", (("x",),)),)), 1, 0),)))
True
>>> [indices for kind, indices in rises_in(LESS, "left", ((1,), (5,), (3,)), least=2)]
[(0, 1), (0, 2)]
>>> found_need(WITHIN, "pair", ((0, 3), (5, 8), (10, 13), (15, 18), (20, 23)), 2, {"probe": (11,)})[1]
((), (), (('up', (('x',), ('y',))),))
"""

PASTS = """
>>> past = Past(STAIRS, "left", ((0, 9), (5, 5), (9, 0)), ({"right": (1, 10)}, {"right": (6, 6)}, {"right": (10, 1)}))
>>> [past.write(5), past.asking(1), past.parting((0, 1), (0, 2)) == past.asking(1)]
[(('left', (0, 9)), ('left', (9, 0))), (('right', (6, 6)),), True]
>>> [past.read(lambda log: rings(STAIRS, past.write(5) + log)), past.wrong_at(7, lambda log: rings(STAIRS, past.write(5) + log))]
[(0, 2), 1]
"""

STATES = """
>>> low, wide = State(LESS, left=((3,),)), State(LESS, left=((5,), (3,)))
>>> [wide.held("left"), are_alike(low, wide), spare_rows(wide), lean(wide) == low, low.rings((("right", (4,)),))]
[((3,), (5,)), True, (('left', (5,)),), True, True]
>>> high = wide.without("left", (3,))
>>> [is_parting_log(low, high, (("right", (4,)),)), are_alike(low, high, marks=(("from", "right", "u", 6),))]
[True, True]
"""

KEEPERS = """
>>> keeper = Keeper(LESS)
>>> [keeper.put("left", (5,)), keeper.put("left", (2,)), keeper.put("right", (1,)), keeper.rows, str(keeper)]
[False, False, False, {'left': ((2,),), 'right': ((1,),)}, 'keeper of 2 rows, 3 came']
>>> [keeper.would_ring((("left", (0,)),)), keeper.undo(many=2), keeper.rows["left"], keeper.joined(Keeper.of_log(LESS, (("right", (6,)),))).has_rung]
[True, 1, ((5,),), True]
"""

COUNTS = """
>>> came = (("left", (1,)), ("right", (2,)), ("left", (3,)), ("right", (5,)))
>>> APART = Question(("and", ("<", "x", 2), ("<", 1, "u")), left=("x",), right=("u",))
>>> [count(LESS, came), count_paper(LESS, "left")[0], is_count_paper(APART, "left", ("even", ((-7,), (2,))))]
[3, 'spread', True]
>>> counter = Counter(APART)
>>> counter.put_all(came)
>>> [counter.total(), counter.classes("left"), counter.total_with((("left", (0,)),)), str(counter)]
[2, (((1,), 1), ((3,), 1)), 4, 'counter of 4 entries']
"""

FORMATS = """
>>> [format_condition(("or", ("and", ("<", "x", "u"), ("not", ("=", "x", 3))), ("always",))), parse_condition("!(x < u)"), format_rest(STAIRS, "left", {"right": (5, -2)})]
['(x < u & !(x = 3)) | always', ('not', ('<', 'x', 'u')), 'right 5 -2']
>>> [format_question(LESS), parse_kind(STAIRS, "left", "- / - / up x < y"), format_log(LESS, (("right", (4,)), ("left", (0,))))]
['left x; right u; x < u', ((), (), (('up', (('x',), ('y',))),)), 'right 4, left 0']
"""

SHELL = """
>>> shell = Shell()
>>> shell.run_all(("open pay left x; right u; x < u", "put pay left 5, left 2", "held pay", "would pay right 3", "few pay left"))
('ok', 'quiet', 'left: 2; right: -', 'rung', 'few')
>>> [shell.run("undo pay 1"), shell.run("held pay"), shell.run("spare pay"), shell.tried("put gone -"), shell.tried("put pay left")]
['1', 'left: 5; right: -', '-', '! UnknownName', '! ParseError']
"""


class Examples(unittest.TestCase):
    def check(self, module, text, more=numbers):
        names = {**vars(more), **vars(module), **NAMES}
        test = doctest.DocTestParser().get_doctest(text, names, module.__name__, None, 0)
        told = []
        doctest.DocTestRunner().run(test, out=told.append)
        self.assertEqual("".join(told), "")
        self.assertGreater(len(test.examples), 1)

    def test_numbers(self):
        self.check(numbers, NUMBERS)

    def test_conditions(self):
        self.check(conditions, CONDITIONS)

    def test_reasoning(self):
        self.check(reasoning, REASONING)

    def test_questions(self):
        self.check(questions, QUESTIONS)

    def test_logs(self):
        self.check(logs, LOGS)

    def test_regions(self):
        self.check(regions, REGIONS)

    def test_tight(self):
        self.check(tight, TIGHT)

    def test_kinds(self):
        self.check(kinds, KINDS)

    def test_standard(self):
        self.check(standard, STANDARD, kinds)

    def test_needs(self):
        self.check(needs, NEEDS)

    def test_forget(self):
        self.check(forget, FORGET)

    def test_papers(self):
        self.check(papers, PAPERS, found)

    def test_pasts(self):
        self.check(pasts, PASTS, logs)

    def test_states(self):
        self.check(states, STATES)

    def test_keepers(self):
        self.check(keepers, KEEPERS)

    def test_counts(self):
        self.check(counts, COUNTS)

    def test_formats(self):
        self.check(formats, FORMATS)

    def test_shell(self):
        self.check(shell, SHELL)

    def test_readme(self):
        readme = pathlib.Path(__file__).resolve().parent.parent / "README.md"
        self.check(numbers, readme.read_text(encoding="utf-8").replace("```", ""))


if __name__ == "__main__":
    unittest.main()
