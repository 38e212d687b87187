"""[17.1] and what the document says of needrows.text.formats."""
import itertools
import random
import string
import unittest

from needrows.ask.questions import Question
from needrows.base.conditions import is_condition
from needrows.errors import (
    InvalidCondition, InvalidKind, InvalidLog, InvalidOperation, InvalidQuestion, InvalidRest, InvalidState, ParseError,
    UnknownName)
from needrows.few.needs import any_need
from needrows.few.papers import is_stream_paper, stream_paper
from needrows.keep.states import State
from needrows.rises.kinds import kinds
from needrows.text.formats import (
    format_condition, format_kind, format_log, format_paper, format_question, format_rest, format_state,
    parse_condition, parse_kind, parse_log, parse_paper, parse_question, parse_rest, parse_state)
from tests.asked import (
    DEEP, EVERY, LESS, NO_QUESTIONS, SHAPES, STAIRS, WIDE, WITHIN, check_wrong, expect, many_asked, no_rests, no_streams,
    wrong_start)
from tests.helpers import (
    EIGHT_DEEP, FAR, FIVE_COLUMNS, FORTY, FORTY_ONE, NINE_DEEP, RIGHT_CONDITIONS, WRONG_CONDITIONS, random_conditions)
from tests.rising import FALL, no_kinds

SIGNS = string.ascii_lowercase + string.digits + " -+!&|()<>=,;:/.\n\tA_"
BIG = 10 ** 39
LOG = (("left", (3, -1)), ("right", (0, 0)), ("left", (3, -1)))
FEW = stream_paper(LESS, "left")
NEED = any_need(STAIRS, "left")


def text_of(condition, inner=False):
    """The text of a condition by the definition."""
    word = condition[0]
    if len(condition) == 1:
        return word
    if word == "not":
        return "!(" + text_of(condition[1]) + ")"
    if word in ("and", "or"):
        text = {"and": " & ", "or": " | "}[word].join(text_of(one, True) for one in condition[1:])
        return "(" + text + ")" if inner else text
    return " ".join((str(condition[1]), word, str(condition[2])))


def row_text(row):
    return " ".join(map(str, row))


def log_text(log):
    return ", ".join(stream + " " + row_text(row) for stream, row in log) or "-"


def kind_text(kind):
    sides = []
    for items in (kind[0], kind[2]):
        texts = []
        for word, groups in items:
            texts.append(word + " " + " < ".join(" = ".join(group) for group in ([groups] if word == "stay" else groups)))
        sides.append(", ".join(texts) or "-")
    return " / ".join((sides[0], ", ".join(f"{column} = {point}" for column, point in kind[1]) or "-", sides[1]))


def paper_text(paper):
    if paper[0] == "few":
        return "\n".join(["few", *(f"{rule[2]} {rule[3]}: {kind_text(rule[1])}" for rule in paper[1])])
    return f"need {kind_text(paper[1])}\nrest {log_text(sorted(paper[2].items()))}"


def others_of(text, source, many):
    """Texts that differ in a sign more, a sign less, another sign, or doubled or moved blanks."""
    found = {" " + text, text + " ", text + "\n", "\n" + text, text.replace(" ", "  "), text.upper(), text * 2, ""}
    found |= {text.replace(*pair) for pair in (
        (", ", ","), (" & ", "&"), (" = ", "="), ("; ", ";"), (": ", ":"), (" / ", "/"), ("\n", " "), ("-", "0"), ("!(", "! ("))}
    for _ in range(many):
        at = source.randrange(len(text) + 1)
        found.add(text[:at] + source.choice(SIGNS) + text[at:])
        found.add(text[:at] + source.choice(SIGNS) + text[at + 1:])
        found.add(text[:at] + text[at + 1:])
        other = source.randrange(len(text) + 1)
        found.add(text[:at] + text[other:])
    return sorted(found - {text})


class Texts(unittest.TestCase):
    def check(self, formatted, parsed, value, text, source, many=12):
        """A value is formatted and read; from any other text nothing is read, or a value whose text it is."""
        self.assertEqual(formatted(value), text)
        self.assertEqual(parsed(text), value)
        for other in others_of(text, source, many):
            try:
                found = parsed(other)
            except ParseError:
                continue
            self.assertEqual(formatted(found), other)
            self.assertNotEqual(found, value)

    def test_conditions(self):
        source = random.Random(601)
        for condition in (*random_conditions(602, 120, ("a", "not", "x"), 5), *RIGHT_CONDITIONS, FORTY, EIGHT_DEEP):
            self.check(format_condition, parse_condition, condition, text_of(condition), source)

    def test_questions(self):
        source = random.Random(603)
        for asked in many_asked(604, 60):
            parts = [" ".join((stream, *asked.streams[stream])) for stream in sorted(asked.streams)]
            text = "; ".join((*parts, text_of(asked.condition)))
            self.check(format_question, parse_question, asked.question, text, source)

    def test_logs_and_states(self):
        source = random.Random(605)
        for asked in many_asked(606, 60):
            question = asked.question
            streams = source.choices(sorted(asked.streams), k=source.randrange(5))
            log = tuple((stream, asked.random_row(source, stream, -30, 30)) for stream in streams)
            self.check(lambda value: format_log(question, value), lambda text: parse_log(question, text), log, log_text(log), source)
            state = State.of(question, {}).with_log(log)
            text = "; ".join(
                stream + ": " + (", ".join(map(row_text, state.rows[stream])) or "-") for stream in sorted(asked.streams))
            self.check(format_state, lambda one: parse_state(question, one), state, text, source)

    def test_rests_kinds_and_papers(self):
        source = random.Random(607)
        for asked in many_asked(608, 60):
            question, stream = asked.question, source.choice(sorted(asked.streams))
            rest = {other: asked.random_row(source, other, -30, 30) for other in reversed(asked.others(stream))}
            self.check(
                lambda value: format_rest(question, stream, value), lambda text: parse_rest(question, stream, text), rest,
                log_text(sorted(rest.items())), source)
            for kind in list(kinds(question, stream))[::9]:
                self.check(
                    lambda value: format_kind(question, stream, value), lambda text: parse_kind(question, stream, text), kind,
                    kind_text(kind), source)
            few = ("few", tuple(("rule", kind, source.randrange(2), 1) for kind in kinds(question, stream)))
            for paper in (stream_paper(question, stream), few, ("need", kind, rest)):
                self.check(
                    lambda value: format_paper(question, stream, value), lambda text: parse_paper(question, stream, text), paper,
                    paper_text(paper), source)

    def test_all_kinds(self):
        for question, stream in ((WIDE, "left"), (DEEP, "some"), (STAIRS, "left"), (LESS, "left")):
            texts = {format_kind(question, stream, kind): kind for kind in kinds(question, stream)}
            self.assertEqual(len(texts), len(list(kinds(question, stream))))
            for text, kind in texts.items():
                self.assertEqual([text, parse_kind(question, stream, text)], [kind_text(kind), kind])

    def test_short_texts(self):
        """All texts of a few words: what is read has the text that was read."""
        words = ("x", "u", "<", "=", "0", "3", "4", "always", "!(", "(", ")", "&", "|")
        read = 0
        for many in (1, 2, 3):
            for some in itertools.product(words, repeat=many):
                for text in (" ".join(some), "".join(some)):
                    try:
                        found = parse_condition(text)
                    except ParseError:
                        continue
                    read += 1
                    self.assertTrue(is_condition(found))
                    self.assertEqual(text_of(found), text)
        self.assertGreater(read, 20)


class Forms(unittest.TestCase):
    def refused(self, parsed, texts):
        for text in texts:
            with self.assertRaises(ParseError, msg=repr(text)):
                parsed(text)

    def test_conditions(self):
        for text, right in (
                ("always", ("always",)), ("always < x", ("<", "always", "x")), ("never = always", ("=", "never", "always")),
                ("3 != x", ("!=", 3, "x")), ("!(never)", ("not", ("never",))), ("!(!(x <= 0))", ("not", ("not", ("<=", "x", 0)))),
                ("x < u & !(x = 3 | u = 0)", ("and", ("<", "x", "u"), ("not", ("or", ("=", "x", 3), ("=", "u", 0))))),
                ("(x < u | always) & never", ("and", ("or", ("<", "x", "u"), ("always",)), ("never",)))):
            self.assertEqual(parse_condition(text), right)
            self.assertEqual(format_condition(right), text)
        self.refused(parse_condition, (
            "", " ", "x", "3", "x <", "< x", "x < ", "x < u ", " x < u", "x  < u", "x<u", "x > u", "x == u", "1 < 2", "x < 4",
            "x < -1", "x < 01", "x < +1", "x < 1.0", "(x < u)", "((x < u | always))", "!x < u", "!(x < u", "x < u)", "! (x < u)",
            "!( x < u )", "!()", "()", "x < u &", "& x < u", "x < u & ", "x < u & x < u | always", "x < u && always",
            "(x < u & always) ", "(x < u) & always", "!((x < u))", "always never", "always always", "Always", "abcdefghi < x",
            "x < U", "x < u\n", "x < u, always", "x < (u)", "(x) < u", "a < b & c < d & e < 1", "x ! u", "-", "x < always y"))
        self.refused(parse_condition, (text_of(one) for one in (FORTY_ONE, NINE_DEEP, FIVE_COLUMNS)))
        self.refused(parse_condition, (" & ".join(["always"] * 7), "!(" * 9 + "always" + ")" * 9, "(" * 500 + ")" * 500))
        self.refused(parse_condition, ("!(" * 5000 + "always" + ")" * 5000, "x & " * 5000, "always & " * 5000 + "always"))
        self.assertEqual([format_condition(EIGHT_DEEP), parse_condition(text_of(EIGHT_DEEP))],
                         ["!(" * 7 + "x < 1" + ")" * 7, EIGHT_DEEP])

    def test_questions(self):
        self.assertEqual(format_question(STAIRS), "left x y; right u v; x < u & y < v")
        turned = Question(("always",), right=("u",), left=("y", "x"))
        self.assertEqual([format_question(turned), parse_question("left y x; right u; always")], ["left y x; right u; always", turned])
        word = Question.of(("<", "x", "u"), {"self": ("x",), "always": ("u",)})
        self.assertEqual(parse_question("always u; self x; x < u"), word)
        self.refused(parse_question, (
            "", "always", "left x; always", "right u; left x; x < u", "left x; right u; x < y", "left x; right u; ", "left x; right u",
            "left x; right x; always", "left x; left u; x < u", "left x;right u; x < u", "left x; right u;x < u", "left x;  right u; x < u",
            "left  x; right u; x < u", "left x ; right u; x < u", "left; right u; always", "left x y z; right u; always", "x < u",
            "left x; right u; (x < u)", "left x; right u; x < u; ", "left x y; right u v; some w; always", "Left x; right u; x < u",
            "left x, right u, x < u", "left x; right u; x < 4", "left x; right u\nx < u", "a b; c d; e f; g h; i j; always", "; ; always"))
        self.refused(parse_question, ("lefthands x; right u; x < u", "lefthand x; right u; xylophone < u", "left 1; right u; always"))

    def test_logs(self):
        self.assertEqual(format_log(STAIRS, LOG), "left 3 -1, right 0 0, left 3 -1")
        self.assertEqual([format_log(LESS, ()), parse_log(LESS, "-")], ["-", ()])
        self.refused(lambda text: parse_log(LESS, text), (
            "", " ", "left", "left ", "left -", "- ", "-, -", "left 3,right 4", "left 3; right 4", "left 3, ", ", left 3", "left 3, -",
            "left  3", "left 3 ", " left 3", "left 3 4", "zz 3", "left x", "3 left", "left +3", "left 03", "left -0", "left - 3",
            "left --3", "left 3.0", "left 1_0", "left 0x1", "left 3\n", "left 3\nright 4", "left ", "left True", "LEFT 3", "left 3,  left 4"))
        self.assertEqual(parse_log(LESS, f"left {BIG}, left -{BIG}"), (("left", (BIG,)), ("left", (-BIG,))))
        self.refused(lambda text: parse_log(LESS, text), (
            f"left {10 * BIG}", f"left -{10 * BIG}", "left " + "9" * 41, "left " + "9" * 5000, "left " + "0" * 41, "left 0" + "9" * 40))
        self.refused(lambda text: parse_log(LESS, text), ("left \u0663", "left \u00b2", "l\u00e9ft 3", "left 3\u00a0"))
        many = ", ".join(["left 3"] * 200)
        self.assertEqual([len(parse_log(LESS, many)), format_log(LESS, parse_log(LESS, many))], [200, many])
        self.refused(lambda text: parse_log(LESS, text), (many + ", left 3",))

    def test_rests(self):
        rest = {"two": (0,), "some": (2, -7)}
        self.assertEqual(format_rest(DEEP, "one", rest), "some 2 -7, two 0")
        self.assertEqual(list(parse_rest(DEEP, "one", "some 2 -7, two 0")), ["some", "two"])
        self.refused(lambda text: parse_rest(DEEP, "one", text), (
            "", "-", "two 0, some 2 -7", "some 2 -7", "two 0", "some 2 -7, two 0, two 0", "some 2 -7, some 2 -7, two 0", "some 2, two 0",
            "one 3, some 2 -7, two 0", "some 2 -7, two 1, two 0", "some 2 -7,two 0", "some 2 -7, two", "some 2 -7, two -", "some 2 -7; two 0"))

    def test_kinds(self):
        for kind, text in (
                (FALL, "- / - / up x, down y"), (((), (), (("up", (("x", "y"),)),)), "- / - / up x = y"),
                (((), (), (("stay", ("y",)), ("up", (("x",),)))), "- / - / stay y, up x")):
            self.assertEqual([format_kind(STAIRS, "left", kind), parse_kind(STAIRS, "left", text)], [text, kind])
        points = Question(("and", ("<", "x", "u"), ("<", 1, "y"), ("<", "y", 3)), left=("x", "y"), right=("u",))
        for text in ("- / y = 2 / up x", "up x / y = 3 / -", "up x / - / down y", "stay y / - / up x", "up x < y / - / -"):
            self.assertEqual(format_kind(points, "left", parse_kind(points, "left", text)), text)
        self.refused(lambda text: parse_kind(points, "left", text), (
            "", "-", "- / -", "- / - / -", "- / y = 4 / up x", "- / y = 02 / up x", "- / y=2 / up x", "- / y = 2 /up x", "-/y = 2/up x",
            "- / y = 2 / up x / -", "- / y = 2 / Up x", "- / y = 2 / down x", "- / y = 2 / up", "- / y = 2 / up ", "- / y = 2 / x",
            "- / y = 2, x = 2 / -", "- / - / up y = x", "- / - / up x > y", "- / - / up x, up x", "- / - / up x,up y", "- / - / stay x < y",
            "- / - / stay x, up y < y", "- / - / up x  < y", "- / - / up z", " / y = 2 / up x", "- / y = 2 / up x ", "- / y = 2 = 2 / up x",
            "- / 2 = y / up x", "- / y = / up x", "- / y = +2 / up x", "- / y = -0 / up x"))

    def test_papers(self):
        self.assertEqual(format_paper(LESS, "left", ("few", (("rule", FEW[1][0][1], 1, 0),))), "few\n1 0: - / - / up x")
        text = "need - / - / up x, down y\nrest right 5 17"
        self.assertEqual(parse_paper(STAIRS, "left", text), ("need", FALL, {"right": (5, 17)}))
        # Right or not: a need that is none, and rules that do not hold.
        for text in ("need - / - / up x\nrest right 0", "few\n0 0: - / - / up x", "few\n2 2: - / - / up x"):
            paper = parse_paper(LESS, "left", text)
            self.assertEqual(format_paper(LESS, "left", paper), text)
        self.assertIs(is_stream_paper(LESS, "left", parse_paper(LESS, "left", "few\n0 0: - / - / up x")), False)
        self.refused(lambda text: parse_paper(LESS, "left", text), (
            "", "few", "few\n", "few\n1 0: - / - / up x\n", "few\n1 0 : - / - / up x", "few\n1 0:- / - / up x", "few\n1: - / - / up x",
            "few\n1 3: - / - / up x", "few\n-1 0: - / - / up x", "few\n01 0: - / - / up x", "few\n1  0: - / - / up x", "few\n1 0 0: - / - / up x",
            "few\n1 0: - / - / up x\n1 0: - / - / up x", "few 1 0: - / - / up x", "few\n1 0: - / - / up u", "few\n1 0: -", "few\n\n1 0: - / - / up x",
            "need - / - / up x", "need - / - / up x\n", "need - / - / up x\nrest", "need - / - / up x\nrest ", "need - / - / up x\nrest -",
            "need - / - / up x\nrest right 0\n", "need - / - / up x\n rest right 0", "need  - / - / up x\nrest right 0", "rest right 0",
            "need - / - / up x\nrest left 0", "need - / - / up u\nrest right 0", "rest right 0\nneed - / - / up x", "need\nrest right 0",
            "need - / - / up x rest right 0", "Few\n1 0: - / - / up x", f"few\n1 {10 * BIG}: - / - / up x"))
        rules = FEW[1]
        for value in (
                *EVERY, ("few", ()), ("few", rules + rules), ("few", list(rules)), ["few", rules], ("few", rules, 1), ("few",),
                ("few", (rules[0][:3],)), ("few", (("rule", rules[0][1], 3, 0),)), ("few", (("rule", rules[0][1], -1, 0),)),
                ("few", (("rule", rules[0][1], True, 0),)), ("few", (("rule", FALL, 1, 0),)), ("few", (list(rules[0]),)),
                ("need", FALL, {"right": (1,)}), ("need", rules[0][1], {"left": (1,)}), ("need", rules[0][1], {}),
                ("need", rules[0][1]), ("need", rules[0][1], (("right", (1,)),)), ("spread", rules[0][1], {"right": (1,)})):
            expect(self, format_paper, (LESS, "left", value), {}, False, InvalidOperation, None, value)
        every = stream_paper(STAIRS.with_condition(("<", "x", "u")), "left")
        for value in (every[1][::-1], every[1][1:], every[1][:-1], every[1] + every[1][-1:]):
            expect(self, format_paper, (STAIRS, "left", ("few", value)), {}, False, InvalidOperation, None, value)

    def test_states(self):
        state = State(STAIRS, left=((4, 0), (3, -1)))
        self.assertEqual([format_state(state), parse_state(STAIRS, "left: 3 -1, 4 0; right: -")], ["left: 3 -1, 4 0; right: -", state])
        self.assertEqual(format_state(State(LESS)), "left: -; right: -")
        self.refused(lambda text: parse_state(LESS, text), (
            "", "-", "left: -", "right: -; left: -", "left: -; right: -; ", "left: ; right: -", "left:-; right: -", "left -; right -",
            "left: 4, 3; right: -", "left: 3, 3; right: -", "left: 3; left: 4; right: -", "left: 3; left: 3; right: -", "left: 3,4; right: -",
            "left: 3 4; right: -", "left: -, 3; right: -", "left: 3, -; right: -", "left: 03; right: -", "left: +3; right: -", "left: -0; right: -",
            "left: 3; right: - ", " left: 3; right: -", "left: 3; right: 4; zz: -", "left: 3, right: -", "left: 3;right: -", "left: 3; right: -\n",
            f"left: {10 * BIG}; right: -", "left: 3; right", "left: x; right: -"))

    def test_streams_that_are_words(self):
        question = Question.of(("<", "x", "u"), {"self": ("x",), "text": ("u",)})
        self.assertEqual(parse_state(question, "self: 1, 2; text: -").rows, {"self": ((1,), (2,)), "text": ()})
        self.assertEqual(format_rest(question, "self", {"text": (4,)}), "text 4")

    def test_far_numbers(self):
        """Integers that are greater than those that can be passed are written; from the text nothing is read."""
        log = (("left", (BIG * 100,)),)
        self.assertEqual(format_log(LESS, log), f"left {BIG * 100}")
        self.refused(lambda text: parse_log(LESS, text), (format_log(LESS, log),))


class Wrong(unittest.TestCase):
    NO_TEXTS = (tuple(value for value in EVERY if value not in ("always",)) + (b"always", ["always"]), ParseError, None)

    def test_one_and_two(self):
        questions = (NO_QUESTIONS, InvalidQuestion, None)
        streams = wrong_start(STAIRS)
        for value in WRONG_CONDITIONS:
            if not is_condition(value):
                expect(self, format_condition, (value,), {}, False, InvalidCondition, None, value)
        for value in NO_QUESTIONS:
            expect(self, format_question, (value,), {}, False, InvalidQuestion, None, value)
        no_logs = tuple(value for value in EVERY if value != ()) + (list(LOG), LOG * 67, (LOG,), (("left", (1,)),))
        check_wrong(self, format_log, [STAIRS, LOG], [questions, (no_logs, InvalidLog, None)])
        rest = {"right": (5, 17)}
        check_wrong(self, format_rest, [STAIRS, "left", rest], [*streams, (no_rests(STAIRS, "left"), InvalidRest, None)])
        check_wrong(self, format_kind, [STAIRS, "left", FALL], [*streams, (no_kinds(FALL), InvalidKind, None)])
        check_wrong(self, format_paper, [STAIRS, "left", NEED], [*streams, (EVERY, InvalidOperation, None)])
        for value in (*EVERY, {"left": ()}, State):
            expect(self, format_state, (value,), {}, False, InvalidState, None, value)

    def test_texts(self):
        questions = (NO_QUESTIONS, InvalidQuestion, None)
        for call in (parse_condition, parse_question):
            for value in self.NO_TEXTS[0]:
                expect(self, call, (value,), {}, False, ParseError, None, value)
        for call, text in ((parse_log, "-"), (parse_state, "left: -; right: -")):
            check_wrong(self, call, [STAIRS, text], [questions, self.NO_TEXTS])
        for call, text in ((parse_rest, "right 5 17"), (parse_kind, "- / - / up x, down y"), (parse_paper, paper_text(NEED))):
            check_wrong(self, call, [STAIRS, "left", text], [*wrong_start(STAIRS), self.NO_TEXTS])
        self.assertEqual([len(SHAPES), FAR > BIG, WITHIN.streams], [9, True, ("pair", "probe")])
        for value in no_streams(STAIRS)[-3:]:
            expect(self, parse_kind, (STAIRS, value, None), {}, False, UnknownName, "name", value)


if __name__ == "__main__":
    unittest.main()
