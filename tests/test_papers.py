"""[0.6], [0.15] to [0.17], [12.1] and what the document says of needrows.few.papers."""
import itertools
import unittest

from needrows.ask.questions import Question
from needrows.base.conditions import mirrored, negated, simplified, without_not
from needrows.base.reasoning import trimmed
from needrows.errors import InvalidQuestion
from needrows.few.forget import is_rule, least_rules, rules
from needrows.few.needs import any_need, is_need, needs
from needrows.few.papers import (
    is_few, is_question_paper, is_stream_paper, kinds_with_needs, needy_streams, question_paper, stream_paper)
from needrows.rises.kinds import kinds
from needrows.rises.standard import standard_rise
from tests.asked import (
    DEEP, EVERY, LESS, NO_QUESTIONS, SHAPES, STAIRS, UNLIKE, WIDE, WITHIN, check_wrong, many_asked, wrong_start)
from tests.rising import FALL, SIDE, UP, kinds_in
from tests.test_needs import need_in

QUESTIONS = (LESS, STAIRS, WITHIN, UNLIKE, WIDE, DEEP)
# Streams that no comparison joins with another one; four streams; a stream called `self`.
APART = Question(("and", ("<", "x", "y"), ("<", 1, "u")), left=("x", "y"), right=("u",))
FOUR = Question(("and", ("<", "a", "b"), ("<=", "b", "c"), ("!=", "c", "d")), p=("a",), q=("b",), r=("c",), s=("d",))
SELF = Question.of(("and", ("<", "x", "u"), ("<", "u", "y")), {"self": ("x", "y"), "question": ("u",)})


def needy_kinds_in(asked, stream):
    """The kinds with a need by the definition: all kinds, and all rests near the three rows and the points."""
    found = []
    for kind in kinds_in(asked.streams[stream], asked.points):
        three = standard_rise(asked.question, stream, kind, 3)
        if any(need_in(asked, stream, kind, rest) for rest in asked.rests(stream, three)):
            found.append(kind)
    return found


def few_paper(question, stream, choose):
    """The "few" paper with a rule of each kind, chosen by a function."""
    return ("few", tuple(choose(rules(question, stream, kind)) for kind in kinds(question, stream)))


class Forms(unittest.TestCase):
    def test_against_definition(self):
        for asked in (*many_asked(201, 27, SHAPES, 3), *many_asked(202, 18, ((1, 1), (2, 1), (1, 1, 1)), 4)):
            question, needy = asked.question, []
            for stream in asked.streams:
                right = needy_kinds_in(asked, stream)
                self.assertEqual(list(kinds_with_needs(question, stream)), right, asked.condition)
                self.assertIs(is_few(question, stream), not right)
                paper = stream_paper(question, stream)
                self.assertEqual(paper[0], "need" if right else "few")
                self.assertTrue(paper[0] == "few" or paper[1] in right and is_need(question, stream, paper))
                self.assertIs(is_stream_paper(question, stream, paper), True)
                needy += [stream] if right else []
            self.assertEqual(needy_streams(question), tuple(needy))
            papers = question_paper(question)
            self.assertEqual(list(papers), sorted(asked.streams))
            self.assertIs(is_question_paper(question, papers), True)

    def test_by_needs_and_rules(self):
        """The same by the needs and rules of each kind, for larger questions, too."""
        asked = [one.question for one in many_asked(203, 54, SHAPES, 4)]
        for question in (*asked, *QUESTIONS, APART, FOUR, SELF):
            for stream in question.streams:
                right = [kind for kind in kinds(question, stream) if list(itertools.islice(needs(question, stream, kind), 1))]
                self.assertEqual(list(kinds_with_needs(question, stream)), right)
                self.assertIs(is_few(question, stream), right == [])
                paper = stream_paper(question, stream)
                if right:
                    self.assertIs(is_need(question, stream, paper), True)
                else:
                    self.assertEqual([rule[1] for rule in paper[1]], list(kinds(question, stream)))
                    self.assertTrue(all(is_rule(question, stream, rule) for rule in paper[1]))

    def test_examples(self):
        self.assertEqual([is_few(LESS, "left"), is_few(UNLIKE, "right"), is_few(WITHIN, "probe")], [True, True, False])
        self.assertEqual([needy_streams(one) for one in (LESS, UNLIKE)], [(), ()])
        self.assertEqual([needy_streams(one) for one in (STAIRS, SELF)], [("left", "right"), ("question", "self")])
        rise = ((), (), (("up", (("y",),)), ("down", (("x",),))))
        self.assertEqual(list(kinds_with_needs(STAIRS, "left")), [FALL, rise])
        self.assertIn(SIDE, list(kinds_with_needs(WITHIN, "pair")))
        self.assertEqual(list(kinds_with_needs(WITHIN, "probe")), [((), (), (("up", (("u",),)),))])
        self.assertEqual([needy_streams(APART), [is_few(APART, stream) for stream in APART.streams]], [(), [True, True]])
        # Each b can be the only one between an a and a c; of the others one or two rows are enough.
        self.assertEqual(needy_streams(FOUR), ("q",))
        for word in ("always", "never"):
            self.assertEqual(needy_streams(FOUR.with_condition((word,))), ())

    def test_equal_conditions(self):
        """[0.16]: which form a paper has depends only on what the condition says."""
        for asked in many_asked(204, 36):
            condition, question = asked.condition, asked.question
            for other in (
                    without_not(condition), negated(negated(condition)), simplified(condition), trimmed(condition),
                    ("and", ("always",), condition), ("or", ("<", question.columns[0], question.columns[0]), condition)):
                self.assertEqual(needy_streams(question.with_condition(other)), needy_streams(question), other)

    def test_names_order_and_mirror(self):
        for asked in many_asked(205, 27):
            question = asked.question
            needy = needy_streams(question)
            self.assertEqual(needy_streams(question.with_condition(mirrored(asked.condition))), needy)
            names = dict(zip(question.streams, ("zz", "yy", "xx", "ww")))
            turned = question.with_streams_by(names)
            self.assertEqual(set(needy_streams(turned)), {names[stream] for stream in needy})
            columns = dict(zip(question.columns, ("self", "k", "zz", "a")))
            self.assertEqual(needy_streams(question.with_columns_by(columns)), needy)


class Papers(unittest.TestCase):
    def test_any_rule_of_each_kind(self):
        for question, stream in ((LESS, "left"), (UNLIKE, "left"), (DEEP, "two"), (APART, "left"), (FOUR, "r")):
            for choose in (min, max, lambda found: found[len(found) // 2]):
                paper = few_paper(question, stream, choose)
                self.assertIs(is_stream_paper(question, stream, paper), True)
                self.check_wrong_rules(question, stream, paper)
            paper = ("few", tuple(least_rules(question, stream, kind)[0] for kind in kinds(question, stream)))
            self.assertIs(is_stream_paper(question, stream, paper), True)

    def check_wrong_rules(self, question, stream, paper):
        found = list(paper[1])
        wrong = [found[:-1], found[1:], found + found[-1:], found[:1] + found, [None] + found[1:]]
        wrong += [found[::-1], found[1:] + found[:1]] if len(found) > 1 else []
        for at in range(0, len(found), 7):
            _, kind, front, behind = found[at]
            for pair in itertools.product(range(-1, 6), repeat=2):
                if ("rule", kind, *pair) not in rules(question, stream, kind):
                    wrong.append(found[:at] + [("rule", kind, *pair)] + found[at + 1:])
            for other in (list(found[at]), ("need", *found[at][1:]), ("rule", kind, True, behind), ("rule", kind, front)):
                wrong.append(found[:at] + [other] + found[at + 1:])
        for value in wrong:
            self.assertIs(is_stream_paper(question, stream, ("few", tuple(value))), False, value)
        for value in (("few", found), ["few", tuple(found)], ("few",), ("few", tuple(found), 1), ("Few", tuple(found)), found):
            self.assertIs(is_stream_paper(question, stream, value), False, value)

    def test_points(self):
        question = Question(("and", ("<", "x", 2), ("<", "x", "u")), left=("x",), right=("u",))
        paper = few_paper(question, "left", min)
        self.assertEqual(len(paper[1]), 2)
        self.assertIs(is_stream_paper(question, "left", paper), True)
        self.assertIs(is_stream_paper(LESS, "left", paper), False)
        kind = ((), (("x", True),), (("up", (("y",),)),))
        some = Question(("and", ("<", "x", "u"), ("=", "y", 1)), left=("x", "y"), right=("u",))
        found = few_paper(some, "left", min)[1]
        bad = tuple(("rule", kind, 1, 1) if rule[1] == kind else rule for rule in found)
        self.assertIs(is_stream_paper(some, "left", ("few", found)), True)
        self.assertEqual(found[[rule[1] for rule in bad].index(kind)][1], kind)
        self.assertIs(is_stream_paper(some, "left", ("few", bad)), False)

    def test_needs(self):
        for question, stream in ((STAIRS, "left"), (WITHIN, "pair"), (WIDE, "right"), (DEEP, "some")):
            for kind in kinds(question, stream):
                for need in itertools.islice(needs(question, stream, kind), 2):
                    self.assertIs(is_stream_paper(question, stream, need), True)
            need = any_need(question, stream)
            all_rules = ("few", tuple(("rule", kind, 1, 1) for kind in kinds(question, stream)))
            for value in (all_rules, list(need), need[:2], ("few", (need,)), (need,), {stream: need}):
                self.assertIs(is_stream_paper(question, stream, value), False, value)
        self.assertIs(is_stream_paper(LESS, "left", ("need", UP, {"right": (5,)})), False)

    def test_question_papers(self):
        for question in (LESS, STAIRS, WITHIN, DEEP, FOUR, SELF):
            papers = question_paper(question)
            self.assertIs(is_question_paper(question, papers), True)
            self.assertIs(is_question_paper(question, dict(reversed(papers.items()))), True)
            for stream in papers:
                left = {other: papers[other] for other in papers if other != stream}
                for value in (left, {**left, "zz": papers[stream]}, {**papers, "zz": papers[stream]}, {**papers, stream: None},
                              {**left, 1: papers[stream]}, {**papers, stream: list(papers[stream])}):
                    self.assertIs(is_question_paper(question, value), False, value)
            for value in (tuple(papers.items()), tuple(papers), [papers], {}):
                self.assertIs(is_question_paper(question, value), False, value)
        swapped = question_paper(STAIRS)
        swapped["left"], swapped["right"] = swapped["right"], swapped["left"]
        self.assertIs(is_question_paper(STAIRS, swapped), False)

    def test_every_value(self):
        for value in EVERY:
            self.assertIs(is_stream_paper(WITHIN, "pair", value), False, value)
            self.assertIs(is_stream_paper(LESS, "left", value), False, value)
            self.assertIs(is_question_paper(LESS, value), False, value)
            for inner in (("few", value), ("few", (value,)), ("need", value, value), (value, ()), ("need", SIDE, value)):
                self.assertIs(is_stream_paper(WITHIN, "pair", inner), False, value)
            self.assertIs(is_question_paper(LESS, {"left": value, "right": value}), False)

    def test_what_is_returned_is_new(self):
        paper = stream_paper(STAIRS, "left")
        kept = dict(paper[2])
        paper[2].clear()
        self.assertEqual(stream_paper(STAIRS, "left")[2], kept)
        papers = question_paper(LESS)
        papers.clear()
        self.assertEqual(list(question_paper(LESS)), ["left", "right"])


class Generators(unittest.TestCase):
    def test_in_part_and_two_at_a_time(self):
        whole = list(kinds_with_needs(WIDE, "left"))
        self.assertGreater(len(whole), 4)
        one, other = kinds_with_needs(WIDE, "left"), kinds_with_needs(WIDE, "left")
        self.assertEqual(list(itertools.islice(one, 2)), whole[:2])
        self.assertEqual(list(zip(one, other)), list(zip(whole[2:], whole)))
        self.assertEqual(whole, sorted(whole))


class Untrue(unittest.TestCase):
    def test_and_of_few(self):
        for sides in (("x", "u"), ("y", "v")):
            self.assertEqual(needy_streams(STAIRS.with_condition(("<", *sides))), ())
        self.assertEqual(needy_streams(STAIRS), ("left", "right"))

    def test_leaving_out_a_comparison(self):
        more = STAIRS.with_condition(("and", *STAIRS.condition[1:], ("=", "x", 1), ("=", "y", 1)))
        self.assertIs(is_few(more, "left"), True)
        self.assertIs(is_few(STAIRS, "left"), False)

    def test_equal_conditions_have_other_kinds(self):
        other = LESS.with_condition(("and", LESS.condition, ("or", ("<", "x", 1), ("<=", 1, "x"))))
        self.assertNotEqual(list(kinds(other, "left")), list(kinds(LESS, "left")))
        self.assertEqual(needy_streams(other), needy_streams(LESS))


class Wrong(unittest.TestCase):
    def test_one_and_two(self):
        start = wrong_start(WITHIN)
        for call in (is_few, stream_paper):
            check_wrong(self, call, [WITHIN, "pair"], start)
        check_wrong(self, kinds_with_needs, [WITHIN, "pair"], start, late=True)
        check_wrong(self, is_stream_paper, [WITHIN, "pair", None], [*start, None])
        for call in (needy_streams, question_paper):
            check_wrong(self, call, [WITHIN], start[:1])
        check_wrong(self, is_question_paper, [WITHIN, None], [(NO_QUESTIONS, InvalidQuestion, None), None])


if __name__ == "__main__":
    unittest.main()
