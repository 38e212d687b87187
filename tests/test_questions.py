"""[0.10], [0.19] and what the document says of needrows.ask.questions."""
import itertools
import random
import unittest

from needrows.ask.questions import Question
from needrows.errors import (
    InvalidCondition, InvalidName, InvalidOperation, InvalidQuestion, InvalidRow, UnknownName)
from tests.asked import (
    EVERY, LESS, NO_NAMES, RETURNED, SHAPES, STAIRS, UNLIKE, WITHIN, Asked, expect, many_asked, no_rows, no_streams)
from tests.helpers import (
    EIGHT_DEEP, FAR, FORTY, NINE_DEEP, RIGHT_CONDITIONS, WRONG_CONDITIONS, columns_in, nested, random_conditions)

COLUMNS = {"left": ("x",), "right": ("u",)}


class Making(unittest.TestCase):
    def test_both_ways(self):
        for asked in many_asked(31, 40):
            question = Question.of(asked.condition, asked.streams)
            self.assertEqual(question.condition, asked.condition)
            self.assertEqual(question.streams, tuple(asked.streams))
            self.assertEqual(question.columns, tuple(asked.columns))
            self.assertEqual(question.points, asked.points)
            turned = {stream: asked.streams[stream] for stream in reversed(asked.streams)}
            self.assertEqual(Question.of(asked.condition, turned), question)
            self.assertEqual(Question.of(asked.condition, turned).streams, tuple(asked.streams))
            if "self" not in turned:
                self.assertEqual(Question(asked.condition, **turned), question)
                self.assertEqual(Question(asked.condition, **turned).streams, tuple(asked.streams))

    def test_names_that_are_words(self):
        question = Question.of(("<", "self", "of"), {"self": ("self", "streams"), "names": ("of",), "question": ("x",)})
        self.assertEqual(question.streams, ("names", "question", "self"))
        self.assertEqual(question.columns, ("of", "self", "streams", "x"))
        self.assertIs(question({"self": (1, 2), "names": (2,), "question": (0,)}), True)
        self.assertEqual(Question(("always",), stream=("a",), names=("b",)).streams, ("names", "stream"))
        self.assertEqual(str(question & question), "question of 3 streams, 4 columns")
        self.assertEqual(question.with_condition(("never",)).columns_of("self"), ("self", "streams"))
        self.assertEqual(question.with_streams_by({"self": "a", "names": "self"}).columns_of("self"), ("of",))
        self.assertEqual(question.with_columns_by({"self": "of", "of": "self"}).condition, ("<", "of", "self"))

    def test_conditions(self):
        for condition in (*RIGHT_CONDITIONS, *random_conditions(32, 60, ("a", "b", "c"))):
            columns = columns_in(condition)
            streams = {"one": tuple(columns[:2]), "two": tuple(columns[2:])}
            if len(columns) < 3:
                streams = {"one": tuple(columns) or ("z",), "two": ("zz",)}
            question = Question.of(condition, streams)
            self.assertEqual([question.condition, question.columns_of("one")], [condition, streams["one"]])

    def test_wrong_condition(self):
        for value in (*WRONG_CONDITIONS, *RETURNED):
            for streams in (COLUMNS, {}, {"left": ("x", 1)}, {"a": ("x",), "b": ("x",)}):
                with self.assertRaises(InvalidCondition):
                    Question(value, **streams)
            for streams in (COLUMNS, None, [], {1: 2}, {"a": ("x",)}):
                with self.assertRaises(InvalidCondition):
                    Question.of(value, streams)

    def test_wrong_names(self):
        for value in EVERY:
            if type(value) is not dict or value != {}:
                with self.assertRaises(InvalidName, msg=value):
                    Question.of(("always",), value)
        for value in NO_NAMES:
            if value.__hash__ and type(value) is not tuple or value == ():
                for streams in ({value: ("x",), "b": ("y",)}, {**COLUMNS, value: ("y",)}):
                    with self.assertRaises(InvalidName, msg=value):
                        Question.of(("always",), streams)
            for columns in ((value,), ("x", value), (value, "x"), (value, value)):
                for streams in ({"left": columns, "right": ("u",)}, {"left": ("x",), "right": columns}, {"a": columns}):
                    with self.assertRaises(InvalidName, msg=value):
                        Question.of(("always",), streams)
                    with self.assertRaises(InvalidName, msg=value):
                        Question(("always",), **streams)
        for columns in ((), ("x", "y", "z"), ["x"], "x", {"x": 1}, None, ("x", ("y",)), [("x",)], (("x",),)):
            with self.assertRaises(InvalidName):
                Question(("always",), left=columns, right=("u",))
            with self.assertRaises(InvalidName):
                Question.of(("<", "zz", 1), {"left": columns})

    def test_invalid(self):
        for streams in (
                {}, {"a": ("x",)}, {"a": ("x", "u")}, {"a": ("x",), "b": ("x",)}, {"a": ("x", "x"), "b": ("u",)},
                {"a": ("x", "u"), "b": ("y", "u")}, {"a": ("x", "u"), "b": ("y", "z"), "c": ("w",)},
                {"a": ("x",), "b": ("u",), "c": ("y",), "d": ("z",), "e": ("w",)},
                {"a": ("x",), "b": ("u",), "c": ("y",), "d": ("z", "w")},
                {"a": ("x",), "b": ("y",)}, {"a": ("u", "y"), "b": ("v", "xx")}):
            with self.assertRaises(InvalidQuestion, msg=streams):
                Question(("<", "x", "u"), **streams)
            with self.assertRaises(InvalidQuestion, msg=streams):
                Question.of(("<", "x", "u"), streams)

    def test_bounds(self):
        for shape in SHAPES:
            columns = list("abcd")
            streams = {name: tuple(columns.pop() for _ in range(many)) for name, many in zip("wxyz", shape)}
            self.assertEqual(len(Question(("always",), **streams)), len(shape))

    def test_dict_is_free(self):
        streams = {"right": ("u",), "left": ("x",)}
        question = Question.of(("<", "x", "u"), streams)
        self.assertEqual(list(streams), ["right", "left"])
        streams["left"] = ("y",)
        streams["more"] = ("z",)
        self.assertEqual([question, question.streams], [LESS, ("left", "right")])

    def test_properties_are_not_set(self):
        for name in ("condition", "streams", "columns", "points"):
            with self.assertRaises(AttributeError):
                setattr(LESS, name, ())


class Asking(unittest.TestCase):
    def test_columns(self):
        question = Question(("<", "b", 2), two=("d", "a"), one=("b",), zero=("c",))
        self.assertEqual([question.streams, question.columns], [("one", "two", "zero"), ("a", "b", "c", "d")])
        self.assertEqual([question.columns_of(one) for one in question.streams], [("b",), ("d", "a"), ("c",)])
        self.assertEqual([question.others(one) for one in ("one", "zero")], [("two", "zero"), ("one", "two")])
        self.assertEqual([question.rest_columns(one) for one in ("one", "two", "zero")],
                         [("d", "a", "c"), ("b", "c"), ("b", "d", "a")])
        self.assertEqual([question.stream_of(one) for one in "abcd"], ["two", "one", "zero", "two"])
        self.assertEqual(question.points, (2,))

    def test_unknown(self):
        for question in (LESS, STAIRS):
            for value in no_streams(question):
                for call in (question.columns_of, question.others, question.rest_columns):
                    expect(self, call, (value,), {}, False, UnknownName, "name", value)
            for value in (*EVERY, "left", "z"):
                if not (type(value) is str and value in question.columns):
                    expect(self, question.stream_of, (value,), {}, False, UnknownName, "name", value)

    def test_call(self):
        source = random.Random(33)
        for asked in many_asked(34, 60):
            for _ in range(30):
                rows = {stream: asked.random_row(source, stream) for stream in asked.streams}
                self.assertIs(asked.question(rows), bool(asked.holds(rows)))
                self.assertIs(asked.question({stream: rows[stream] for stream in reversed(rows)}), asked.holds(rows))
        self.assertIs(LESS({"left": (-FAR,), "right": (FAR,)}), True)
        self.assertIs(Question(("=", "x", 3), a=("x", "y"), b=("z",))({"a": (3, FAR), "b": (0,)}), True)

    def test_call_wrong(self):
        rows = {"left": (1, 2), "right": (3, 4)}
        wrong = [value for value in EVERY] + [
            {}, {"left": (1, 2)}, {**rows, "more": (1,)}, {**rows, None: (1,)}, {"left": (1, 2), "Right": (3, 4)},
            (("left", (1, 2)), ("right", (3, 4))), [rows], {"x": 1, "y": 2, "u": 3, "v": 4}]
        wrong += [{**rows, stream: value} for stream in rows for value in no_rows(2)]
        for value in wrong:
            with self.assertRaises(InvalidRow, msg=value):
                STAIRS(value)

    def test_with_condition(self):
        question = STAIRS.with_condition(("=", "v", 1))
        self.assertEqual([question.condition, question.streams, question.points], [("=", "v", 1), ("left", "right"), (1,)])
        self.assertEqual(question, Question(("=", "v", 1), right=("u", "v"), left=("x", "y")))
        self.assertEqual(STAIRS.condition, ("and", ("<", "x", "u"), ("<", "y", "v")))
        for value in (*WRONG_CONDITIONS, *RETURNED):
            with self.assertRaises(InvalidCondition):
                STAIRS.with_condition(value)
        for value in (("<", "z", 1), ("and", ("<", "x", "u"), ("<", "left", "u"))):
            with self.assertRaises(InvalidQuestion):
                STAIRS.with_condition(value)


class Operators(unittest.TestCase):
    def test_joined(self):
        for asked in many_asked(35, 20):
            other = asked.question.with_condition(("always",))
            for one, two in ((asked.question, other), (other, asked.question), (asked.question, asked.question)):
                self.assertEqual((one & two).condition, ("and", one.condition, two.condition))
                self.assertEqual((one | two).condition, ("or", one.condition, two.condition))
                for question in (one & two, one | two):
                    self.assertEqual(question, Question.of(question.condition, asked.streams))
                    self.assertEqual([question.streams, question.points], [tuple(asked.streams), asked.points])

    def test_points_of_both(self):
        one, other = LESS.with_condition(("<", "x", 0)), LESS.with_condition(("<", "u", 3))
        self.assertEqual([(one & other).points, (one | other).points], [(0, 1, 2, 3)] * 2)

    def test_wrong(self):
        turned = Question(STAIRS.condition, left=("y", "x"), right=("u", "v"))
        more = Question(("<", "x", "u"), left=("x",), right=("u",), third=("z",))
        others = (LESS, turned, more, Question(("<", "x", "u"), left=("x", "y"), rite=("u", "v")))
        for value in (*(one for one in EVERY if one != STAIRS), *others, Question):
            for call in (lambda: STAIRS & value, lambda: STAIRS | value):
                with self.assertRaises(InvalidOperation, msg=value):
                    call()
        for value in (more, turned, Question(("<", "x", "u"), left=("u",), right=("x",))):
            with self.assertRaises(InvalidOperation):
                LESS & value

    def test_too_many(self):
        one = Question(("always",), a=("x",), b=("y",))
        forty, deep = one.with_condition(FORTY), one.with_condition(EIGHT_DEEP)
        for value in (forty, deep):
            for call in (lambda: one & value, lambda: value | one, lambda: value & value):
                with self.assertRaises(InvalidCondition):
                    call()
        self.assertEqual((one & one.with_condition(EIGHT_DEEP[1])).condition, ("and", ("always",), EIGHT_DEEP[1]))
        with self.assertRaises(InvalidCondition):
            Question(NINE_DEEP, a=("x",), b=("y",))
        half = ("and", *[("or", *[("<", "x", 1)] * 6)] * 2, *[("never",)] * 4)
        twenty = one.with_condition(half)
        with self.assertRaises(InvalidCondition):
            twenty & (twenty & one)
        self.assertEqual(len((twenty & twenty).condition), 3)

    def test_equal(self):
        same = Question(("<", "x", "u"), right=("u",), left=("x",))
        self.assertIs(LESS == same, True)
        self.assertIs(LESS != same, False)
        for value in (
                *(one for one in EVERY if one is not LESS), UNLIKE, WITHIN, LESS.condition, str(LESS), Question,
                Question(("<", "x", "u"), left=("x",), right=("u",), more=("z",)),
                Question(("<", "x", "u"), left=("u",), right=("x",)), LESS.with_condition(("<=", "x", "u")),
                LESS.with_condition(("not", ("<=", "u", "x"))), LESS.with_streams(left="a")):
            self.assertIs(LESS == value, False)
            self.assertIs(LESS != value, True)
        self.assertNotEqual(STAIRS, Question(STAIRS.condition, left=("y", "x"), right=("u", "v")))

    def test_length_and_members(self):
        question = Question(("always",), a=("x",), b=("y",), c=("z", "w"))
        self.assertEqual([len(LESS), len(question)], [2, 3])
        self.assertEqual(["a" in question, "c" in question, "x" in question, "left" in LESS], [True, True, False, True])
        for value in no_streams(LESS):
            self.assertIs(value in LESS, False)
        self.assertEqual(str(question), "question of 3 streams, 4 columns")
        self.assertEqual(str(LESS), "question of 2 streams, 2 columns")
        self.assertEqual(str(Question(("never",), a=("x",), b=("y",), c=("z",), d=("w",))), "question of 4 streams, 4 columns")


class Renaming(unittest.TestCase):
    def test_streams(self):
        for call in (lambda **names: STAIRS.with_streams(**names), lambda **names: STAIRS.with_streams_by(names)):
            question = call(left="z")
            self.assertEqual([question.streams, question.columns_of("z")], [("right", "z"), ("x", "y")])
            self.assertEqual(question.condition, STAIRS.condition)
            question = call(left="right", right="left")
            self.assertEqual([question.columns_of("left"), question.rest_columns("left")], [("u", "v"), ("x", "y")])
            self.assertEqual([call(), call(left="left")], [STAIRS, STAIRS])
            self.assertEqual(call(left="self").columns_of("self"), ("x", "y"))

    def test_columns(self):
        for call in (lambda **names: STAIRS.with_columns(**names), lambda **names: STAIRS.with_columns_by(names)):
            question = call(x="z", u="x")
            self.assertEqual(question.condition, ("and", ("<", "z", "x"), ("<", "y", "v")))
            self.assertEqual([question.columns_of("left"), question.columns_of("right")], [("z", "y"), ("x", "v")])
            self.assertEqual([question.columns, question.stream_of("x")], [("v", "x", "y", "z"), "right"])
            self.assertEqual([call(), call(x="x"), call(x="y", y="x").condition[1]], [STAIRS, STAIRS, ("<", "y", "u")])
            self.assertEqual(call(x="self").with_columns_by({"self": "x"}), STAIRS)

    def test_columns_that_the_condition_has_not(self):
        question = Question(("not", ("<", "x", 2)), left=("x", "y"), right=("u",))
        self.assertEqual(question.with_columns(u="w", y="u").columns_of("left"), ("x", "u"))
        self.assertEqual(question.with_columns(u="w").condition, ("not", ("<", "x", 2)))
        self.assertEqual(question.with_columns(x="w").points, (2,))

    def test_against_oracle(self):
        source = random.Random(36)
        for asked in many_asked(37, 20):
            columns = dict(zip(asked.columns, source.sample(["a", "b", "c", "d", "self", "zz"], len(asked.columns))))
            question = asked.question.with_columns_by(columns)
            streams = {one: tuple(columns[column] for column in asked.streams[one]) for one in asked.streams}
            self.assertEqual(question, Question.of(question.condition, streams))
            other = Asked(question.condition, streams)
            for _ in range(20):
                rows = {stream: asked.random_row(source, stream) for stream in asked.streams}
                self.assertEqual(other.holds(rows), asked.holds(rows))

    def test_no_dict(self):
        for value in (*EVERY, {1: "x"}, {"left": "a", None: "b"}, {("left",): "a"}, {True: 1, "zz": 2}):
            if type(value) is dict and all(type(key) is str for key in value):
                continue
            for call in (STAIRS.with_streams_by, STAIRS.with_columns_by):
                expect(self, call, (value,), {}, False, InvalidOperation, None, value)

    def test_unknown(self):
        for call, right in ((STAIRS.with_streams, "left"), (STAIRS.with_columns, "x")):
            by = {STAIRS.with_streams: STAIRS.with_streams_by, STAIRS.with_columns: STAIRS.with_columns_by}[call]
            for names, smallest in (
                    ({"zz": "a", "b": "c"}, "b"), ({right: None, "zz": 1}, "zz"), ({"": "a", "X": "b"}, ""),
                    ({"zz": "a", right: right}, "zz"), ({"Z": [], "a": ()}, "Z"), ({right + "x": right}, right + "x")):
                expect(self, by, (names,), {}, False, UnknownName, "name", smallest)
                expect(self, call, (), names, False, UnknownName, "name", smallest)
            expect(self, by, ({"self": "a"},), {}, False, UnknownName, "name", "self")
        with self.assertRaises(UnknownName):
            STAIRS.with_streams(x="a")
        with self.assertRaises(UnknownName):
            STAIRS.with_columns(left="a")

    def test_no_name(self):
        for value in NO_NAMES:
            for names in ({"left": value}, {"left": value, "right": value}, {"left": "right", "right": value}):
                expect(self, STAIRS.with_streams_by, (names,), {}, False, InvalidName, None, value)
                expect(self, STAIRS.with_streams, (), names, False, InvalidName, None, value)
            for names in ({"x": value}, {"v": value, "y": value}, {"x": "y", "u": value}):
                expect(self, STAIRS.with_columns_by, (names,), {}, False, InvalidName, None, value)
                expect(self, STAIRS.with_columns, (), names, False, InvalidName, None, value)

    def test_two_equal(self):
        for names in ({"left": "right"}, {"right": "left"}, {"left": "a", "right": "a"}):
            expect(self, STAIRS.with_streams, (), names, False, InvalidQuestion, None, names)
        for names in ({"x": "y"}, {"x": "u"}, {"u": "a", "y": "a"}, {"x": "u", "u": "v"}):
            expect(self, STAIRS.with_columns, (), names, False, InvalidQuestion, None, names)

    def test_dict_stays(self):
        names = {"left": "z", "right": "left"}
        STAIRS.with_streams_by(names)
        self.assertEqual(list(names.items()), [("left", "z"), ("right", "left")])


class Again(unittest.TestCase):
    def test_never_changes(self):
        question = Question(("<", "x", 2), left=("x",), right=("u",))
        before = [question.condition, question.streams, question.columns, question.points, str(question)]
        question.with_condition(("always",))
        question.with_columns(x="z")
        question.with_streams(left="z")
        str(question & question)
        for call in (lambda: question & LESS.with_streams(left="a"), lambda: question.with_condition(("<", "q", 1))):
            with self.assertRaises((InvalidOperation, InvalidQuestion)):
                call()
        self.assertEqual([question.condition, question.streams, question.columns, question.points, str(question)], before)

    def test_deep_values(self):
        deep = nested(("x",), 19, lambda inner: (inner,))
        for value in (deep, [deep], {"left": deep}):
            with self.assertRaises(InvalidName):
                Question.of(("always",), {"left": value, "right": ("u",)})

    def test_equal_calls(self):
        for one, other in itertools.product((LESS, STAIRS, WITHIN), repeat=2):
            self.assertEqual(one == other, str(one) == str(other) and one.condition == other.condition)


if __name__ == "__main__":
    unittest.main()
