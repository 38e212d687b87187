"""[0.9], [2.1] to [2.3] and what of [0.1] to [0.8] concerns needrows.base.conditions."""
import itertools
import unittest

from needrows.base import conditions as module
from needrows.base.conditions import (
    both, columns_of, depth, either, holds, holds_for, is_condition, mirrored, negated, parts_of, points_of, renamed,
    renamed_by, simplified, without_not)
from needrows.base.numbers import Line
from needrows.errors import InvalidCondition, InvalidName, InvalidOperation, UnknownName
from tests.helpers import (
    EIGHT_DEEP, FAR, FORTY, FORTY_ONE, FOUR_COLUMNS, NINE_DEEP, RIGHT_CONDITIONS, VALUES, WRONG_CONDITIONS, columns_in,
    count_parts, judge, nested, random_conditions, truths, window)

LESS = ("<", "x", "u")
SOME = random_conditions(11, 150, ("a", "b"))
WITH_ONE_CONDITION = (
    columns_of, points_of, depth, without_not, negated, mirrored, simplified, holds, renamed,
    lambda value: list(parts_of(value)), lambda value: holds_for(value, {}), lambda value: renamed_by(value, {}))


def words_in(condition):
    """All first words in a condition."""
    inner = condition[1:] if condition[0] in ("not", "and", "or") else ()
    return {condition[0]}.union(*map(words_in, inner))


class IsCondition(unittest.TestCase):
    def test_constants(self):
        self.assertEqual([module.MAX_PARTS, module.MAX_DEEP, module.MAX_WRITTEN], [40, 8, 3])

    def test_right(self):
        for value in (*RIGHT_CONDITIONS, *SOME):
            self.assertIs(is_condition(value), True, value)

    def test_wrong(self):
        for value in (*WRONG_CONDITIONS, Line(1), parts_of(LESS)):
            self.assertIs(is_condition(value), False, value)

    def test_bounds(self):
        self.assertEqual([count_parts(FORTY), count_parts(FORTY_ONE)], [40, 41])
        self.assertEqual([is_condition(FORTY), is_condition(FORTY_ONE)], [True, False])
        self.assertEqual([is_condition(EIGHT_DEEP), is_condition(NINE_DEEP)], [True, False])
        self.assertIs(is_condition(("and", FOUR_COLUMNS, ("<", "e", 1))), False)
        self.assertIs(is_condition(("and", FOUR_COLUMNS, ("<", "d", "a"))), True)
        for word in ("and", "or"):
            for many in range(9):
                self.assertIs(is_condition((word, *[LESS] * many)), 2 <= many <= 6, many)

    def test_terms(self):
        columns = ("x", "abcdefgh")
        right = (0, 1, 3, *columns)
        wrong = (4, -1, "abcdefghi", "", "X", True, False, None, (), ("x",), [1], {})
        for sign, one, other in itertools.product(("<", "<=", "=", "!="), right, right):
            self.assertIs(is_condition((sign, one, other)), one in columns or other in columns, (sign, one, other))
        for sign, one, other in itertools.product(("<", "<=", "=", "!="), right, wrong):
            self.assertIs(is_condition((sign, one, other)), False, (sign, one, other))
            self.assertIs(is_condition((sign, other, one)), False, (sign, other, one))
        for sign in (">", ">=", "==", "<>", "", None, 1, True, ("<",), ["<"], {}, LESS):
            self.assertIs(is_condition((sign, "x", 1)), False, sign)

    def test_wrong_inside(self):
        for value in WRONG_CONDITIONS:
            for whole in (("not", value), ("and", value, LESS), ("or", LESS, value), ("and", value, value)):
                self.assertIs(is_condition(whole), False, whole)

    def test_huge(self):
        shared = nested(("<", "x", 1), 6, lambda inner: ("and",) + (inner,) * 6)
        self.assertIs(is_condition(shared), False)
        self.assertIs(is_condition(nested(shared, 400, lambda inner: ("or", inner, inner))), False)


class WrongConditions(unittest.TestCase):
    def test_one_condition(self):
        for value in (*WRONG_CONDITIONS, Line(2)):
            for call in WITH_ONE_CONDITION:
                with self.assertRaises(InvalidCondition):
                    call(value)

    def test_generator_raises_late(self):
        for value in (*WRONG_CONDITIONS, Line(2)):
            begun = parts_of(value)
            with self.assertRaises(InvalidCondition):
                next(begun)

    def test_condition_comes_first(self):
        for wrong, other in itertools.product((("<", 1, 2), None, [LESS]), VALUES):
            with self.assertRaises(InvalidCondition):
                holds_for(wrong, other)
            with self.assertRaises(InvalidCondition):
                renamed_by(wrong, other)
        with self.assertRaises(InvalidCondition):
            holds(("<", 1, 2), X=None)
        with self.assertRaises(InvalidCondition):
            renamed(("<", 1, 2), q=None)


class Parts(unittest.TestCase):
    def test_parts(self):
        inner = ("or", ("never",), ("not", ("=", "a", 1)))
        whole = ("and", inner, LESS, LESS)
        right = [whole, inner, ("never",), ("not", ("=", "a", 1)), ("=", "a", 1), LESS, LESS]
        self.assertEqual(list(parts_of(whole)), right)
        self.assertEqual(list(parts_of(("always",))), [("always",)])
        for condition in (*RIGHT_CONDITIONS, *SOME):
            self.assertEqual(len(list(parts_of(condition))), count_parts(condition))
            self.assertTrue(all(map(is_condition, parts_of(condition))))

    def test_in_part_and_two_at_a_time(self):
        for condition in (FORTY, FOUR_COLUMNS, ("always",)):
            whole = list(parts_of(condition))
            one, other = parts_of(condition), parts_of(condition)
            self.assertEqual(next(one), whole[0])
            self.assertEqual(list(zip(one, other)), list(zip(whole[1:], whole)))
            self.assertEqual(list(parts_of(condition)), whole)

    def test_columns(self):
        self.assertEqual(columns_of(("or", ("<", "u", "x"), ("and", ("=", "b", 1), ("<", 0, "b")))), ("b", "u", "x"))
        self.assertEqual(columns_of(("not", ("always",))), ())
        self.assertEqual(columns_of(("<", "and", "never")), ("and", "never"))
        for condition in SOME:
            self.assertEqual(columns_of(condition), tuple(columns_in(condition)))

    def test_points(self):
        self.assertEqual(points_of(("or", ("<", "u", 3), ("not", ("<=", 0, "x")))), (0, 1, 2, 3))
        self.assertEqual(points_of(("and", ("=", "u", 3), ("=", 2, "u"))), (2, 3))
        self.assertEqual([points_of(("=", "u", 0)), points_of(LESS), points_of(("never",))], [(0,), (), ()])

    def test_depth(self):
        self.assertEqual([depth(("always",)), depth(LESS), depth(("not", LESS)), depth(EIGHT_DEEP)], [1, 1, 2, 8])
        self.assertEqual(depth(("and", LESS, ("or", ("not", LESS), LESS), ("not", LESS))), 4)


class Holds(unittest.TestCase):
    def test_against_oracle(self):
        for condition in SOME:
            columns = columns_in(condition)
            told = judge(condition, columns)
            for numbers in window(columns):
                given = dict(zip(columns, numbers))
                self.assertIs(holds_for(condition, given), told(*numbers))
                self.assertIs(holds(condition, **given), told(*numbers))

    def test_signs(self):
        for sign, right in (("<", (1, 0, 0)), ("<=", (1, 1, 0)), ("=", (0, 1, 0)), ("!=", (1, 0, 1))):
            for value, told in zip((1, 2, 3), right):
                self.assertIs(holds((sign, "x", 2), x=value), bool(told))
                self.assertIs(holds((sign, value, "x"), x=2), bool(told))
                self.assertIs(holds((sign, "x", "u"), x=value + FAR, u=2 + FAR), bool(told))
        self.assertEqual([holds(("<=", "x", "x"), x=1), holds(("<", "x", "x"), x=1)], [True, False])

    def test_more_names(self):
        self.assertIs(holds(("always",)), True)
        self.assertIs(holds_for(("never",), {}), False)
        self.assertIs(holds(LESS, x=1, u=2, other=5, self=1), True)
        self.assertIs(holds_for(LESS, {"v": FAR, "u": 2, "x": -FAR}), True)

    def test_wrong_numbers(self):
        missing = [{}, {"x": 1}, {"u": 2}, {"u": 2, "y": 3}]
        wrong = [value for value in VALUES if value not in missing] + [
            {"x": 1, "u": None}, {"x": True, "u": 1}, {"x": 1, "u": "1"}, {"x": 1, "u": [1]}, {"x": 1, "u": (2,)},
            {"x": 1, "u": 2, "V": 3}, {"x": 1, "u": 2, 3: 4}, {"x": 1, "u": 2, "v": False}, {"x": 1, "u": 2, (): 3},
            {"x": 1, "u": 2, "abcdefghi": 3}, {"x": 1, "u": 2, None: 3}, [("x", 1), ("u", 2)], Line(1)]
        cases = [(LESS, value) for value in missing + wrong] + [(("always",), value) for value in wrong]
        for condition, value in cases:
            with self.assertRaises(InvalidOperation, msg=value):
                holds_for(condition, value)
            if type(value) is dict and all(type(name) is str for name in value):
                with self.assertRaises(InvalidOperation, msg=value):
                    holds(condition, **value)
        for value in missing:
            self.assertIs(holds_for(("always",), value), True)

    def test_dict_stays(self):
        given = {"u": 2, "x": 1, "b": 5}
        holds_for(LESS, given)
        self.assertEqual(list(given.items()), [("u", 2), ("x", 1), ("b", 5)])


class Not(unittest.TestCase):
    def test_rules(self):
        for condition, turned in (
                (("always",), ("never",)), (("never",), ("always",)), (("=", "x", 1), ("!=", "x", 1)),
                (("!=", 1, "x"), ("=", 1, "x")), (("<", "x", 1), ("<=", 1, "x")), (("<=", "x", "u"), ("<", "u", "x")),
                (("and", ("always",), LESS), ("or", ("never",), ("<=", "u", "x"))),
                (("or", LESS, LESS, ("never",)), ("and", ("<=", "u", "x"), ("<=", "u", "x"), ("always",)))):
            self.assertEqual(negated(condition), turned)
            self.assertEqual(without_not(condition), condition)
            self.assertEqual(without_not(("not", condition)), turned)
            self.assertEqual(negated(("not", condition)), condition)
            self.assertEqual(without_not(("not", ("not", condition))), condition)
            self.assertEqual(negated(("not", ("not", condition))), turned)
            self.assertEqual(without_not(("and", ("not", condition), condition)), ("and", turned, condition))
            self.assertEqual(negated(("and", ("not", condition), condition)), ("or", condition, turned))
            self.assertEqual(without_not(("not", ("or", ("not", condition), LESS))), ("and", condition, ("<=", "u", "x")))

    def test_against_oracle(self):
        for condition in SOME:
            columns = columns_in(condition)
            told = truths(condition, columns)
            self.assertNotIn("not", words_in(without_not(condition)))
            self.assertNotIn("not", words_in(negated(condition)))
            self.assertEqual(truths(without_not(condition), columns), told)
            self.assertEqual(truths(negated(condition), columns), tuple(not one for one in told))
            self.assertEqual(negated(condition), without_not(("not", condition)))

    def test_bounds(self):
        self.assertEqual(negated(EIGHT_DEEP), ("<", "x", 1))
        self.assertEqual(without_not(EIGHT_DEEP), ("<=", 1, "x"))
        self.assertEqual(count_parts(negated(FORTY)), 40)


class Mirrored(unittest.TestCase):
    def test_rules(self):
        self.assertEqual(mirrored(("<", "x", 1)), ("<", 2, "x"))
        self.assertEqual(mirrored(("<=", 0, "x")), ("<=", "x", 3))
        self.assertEqual(mirrored(("=", 0, "x")), ("=", 3, "x"))
        self.assertEqual(mirrored(("!=", "x", 2)), ("!=", "x", 1))
        self.assertEqual(mirrored(("not", ("or", LESS, ("never",)))), ("not", ("or", ("<", "u", "x"), ("never",))))

    def test_against_oracle(self):
        for condition in SOME:
            columns = columns_in(condition)
            told, other = judge(condition, columns), judge(mirrored(condition), columns)
            for numbers in window(columns):
                self.assertEqual(told(*(3 - number for number in numbers)), other(*numbers))
            self.assertEqual(mirrored(mirrored(condition)), condition)


def simple(condition):
    """Another way to simplify: one step at one place, until no step is left."""
    word, inner = condition[0], condition[1:]
    if word in ("<", "<=", "=", "!="):
        return (("always",) if "=" in word and word != "!=" else ("never",)) if inner[0] == inner[1] else condition
    inner = tuple(map(simple, inner)) if word in ("not", "and", "or") else inner
    if word == "not":
        return {("always",): ("never",), ("never",): ("always",)}.get(inner[0], ("not", *inner))
    if word == "and" and ("never",) in inner:
        return ("never",)
    if word == "or" and ("always",) in inner:
        return ("always",)
    if word in ("and", "or"):
        inner = tuple(one for one in inner if one not in (("always",), ("never",)))
        if len(inner) == 0:
            return ("always",) if word == "and" else ("never",)
        return inner[0] if len(inner) == 1 else (word, *inner)
    return condition


class Simplified(unittest.TestCase):
    def test_rules(self):
        yes, no = ("always",), ("never",)
        for condition, right in (
                (yes, yes), (no, no), (("not", yes), no), (("not", no), yes), (("not", ("not", yes)), yes),
                (("<", "x", "x"), no), (("!=", "x", "x"), no), (("<=", "x", "x"), yes), (("=", "x", "x"), yes),
                (("=", "x", 1), ("=", "x", 1)), (("not", LESS), ("not", LESS)),
                (("not", ("not", LESS)), ("not", ("not", LESS))),
                (("and", LESS, no), no), (("and", yes, no), no), (("and", yes, yes), yes), (("and", LESS, yes), LESS),
                (("and", LESS, yes, LESS), ("and", LESS, LESS)), (("or", LESS, yes), yes), (("or", no, yes), yes),
                (("or", no, no), no), (("or", no, LESS), LESS), (("or", LESS, no, LESS), ("or", LESS, LESS)),
                (("and", LESS, ("not", ("<", "u", "u"))), LESS), (("or", ("and", yes, yes), LESS), yes),
                (("and", ("or", no, ("and", LESS, yes)), LESS), ("and", LESS, LESS)),
                (("and", ("and", LESS, LESS), LESS), ("and", ("and", LESS, LESS), LESS))):
            self.assertEqual(simplified(condition), right, condition)

    def test_against_oracle(self):
        for condition in SOME + random_conditions(12, 200, ("a",), 6, (0,)):
            columns = columns_in(condition)
            self.assertEqual(simplified(condition), simple(condition))
            self.assertEqual(truths(simplified(condition), columns), truths(condition, columns))


class Renamed(unittest.TestCase):
    def test_renamed(self):
        whole = ("and", LESS, ("not", ("=", "x", 1)), ("always",))
        self.assertEqual(renamed(whole, x="u", u="x"), ("and", ("<", "u", "x"), ("not", ("=", "u", 1)), ("always",)))
        self.assertEqual(renamed(whole, x="u"), ("and", ("<", "u", "u"), ("not", ("=", "u", 1)), ("always",)))
        self.assertEqual(renamed(whole, x="self"), renamed_by(whole, {"x": "self"}))
        self.assertEqual([renamed(whole), renamed_by(whole, {})], [whole, whole])
        self.assertEqual(renamed_by(("<", "self", 2), {"self": "condition"[:8]}), ("<", "conditio", 2))
        self.assertEqual(renamed(FOUR_COLUMNS, a="z", b="z", c="z", d="z"), ("and", ("<", "z", "z"), ("<", "z", "z")))

    def test_no_dict(self):
        for value in (*VALUES, Line(1), {1: "x", "x": "u"}, {("x",): "u"}, {None: "u"}, {True: "u"}):
            if type(value) is dict and all(type(key) is str for key in value):
                continue
            with self.assertRaises(InvalidOperation, msg=value):
                renamed_by(LESS, value)

    def test_unknown(self):
        for names, smallest in (
                ({"z": "a", "y": "b"}, "y"), ({"x": "a", "v": "b"}, "v"), ({"X": "a"}, "X"), ({"": "a", "z": 1}, ""),
                ({"z": None, "u": None}, "z"), ({"a b": "c"}, "a b"), ({"x": 1, "xx": 2}, "xx")):
            for call in (lambda: renamed_by(LESS, names), lambda: renamed(LESS, **names)):
                with self.assertRaises(UnknownName) as caught:
                    call()
                self.assertEqual(caught.exception.name, smallest)
        with self.assertRaises(UnknownName):
            renamed(("always",), x="u")

    def test_no_name(self):
        for value in (*VALUES, Line(1)):
            if type(value) is str and value in ("x", "and", "always"):
                continue
            for names in ({"x": value}, {"u": "a", "x": value}, {"x": value, "u": value}):
                with self.assertRaises(InvalidName, msg=value):
                    renamed_by(LESS, names)
                with self.assertRaises(InvalidName, msg=value):
                    renamed(LESS, **names)

    def test_several_wrong(self):
        with self.assertRaises(InvalidOperation):
            renamed_by(LESS, {"z": None, 1: "a"})
        with self.assertRaises(UnknownName):
            renamed_by(LESS, {"x": None, "z": "a"})

    def test_dict_stays(self):
        names = {"x": "a", "u": "x"}
        renamed_by(LESS, names)
        self.assertEqual(list(names.items()), [("x", "a"), ("u", "x")])


class Joined(unittest.TestCase):
    def test_joined(self):
        for call, word in ((both, "and"), (either, "or")):
            self.assertEqual(call(LESS, ("never",), LESS), (word, LESS, ("never",), LESS))
            self.assertEqual(call(LESS), LESS)
            self.assertEqual(call((word, LESS, LESS), LESS), (word, (word, LESS, LESS), LESS))
            self.assertEqual([call(FORTY), call(EIGHT_DEEP)], [FORTY, EIGHT_DEEP])
            self.assertEqual(len(call(*[LESS] * 6)), 7)

    def test_wrong(self):
        for call in (both, either):
            for value in (*WRONG_CONDITIONS, Line(1)):
                for arguments in ((value,), (LESS, value), (value, LESS), (value, value), (LESS, LESS, value)):
                    with self.assertRaises(InvalidCondition):
                        call(*arguments)
            for arguments in (
                    (), [LESS] * 7, (FORTY, LESS), (EIGHT_DEEP, LESS), (FOUR_COLUMNS, ("<", "e", 1)), ((LESS, LESS),)):
                with self.assertRaises(InvalidCondition):
                    call(*arguments)


class Again(unittest.TestCase):
    def test_equal_calls(self):
        calls = (columns_of, points_of, depth, without_not, negated, mirrored, simplified, renamed, both, either)
        for condition in SOME:
            for call in calls:
                self.assertEqual(call(condition), call(condition))


if __name__ == "__main__":
    unittest.main()
