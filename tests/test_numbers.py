"""[1.1], [1.2] and what of [0.1] to [0.8] concerns needrows.base.numbers."""
import itertools
import unittest

from needrows.base.numbers import Line, compare, is_name
from needrows.errors import InvalidNumber, InvalidOperation
from tests.helpers import FAR, VALUES, is_whole

SETS = ((), (0,), (-7,), (5, 7), (0, 1), (0, 3), (-2, 0, 1), (0, 1, 2, 3), (-9, -3, 5), (FAR, FAR + 2), (-FAR, FAR))
NO_TUPLES = [value for value in VALUES if type(value) is not tuple or not all(map(is_whole, value))]
NO_NUMBERS = [value for value in VALUES if not is_whole(value)]


def place_of(given, number):
    """The place by its definition."""
    if number in given:
        return 2 * sorted(given).index(number) + 1
    return 2 * sum(1 for one in given if one < number)


def alike(given, one, other):
    """Whether tuples are placed alike by the definition."""
    if len(one) != len(other) or any(place_of(given, a) != place_of(given, b) for a, b in zip(one, other)):
        return False
    pairs = list(itertools.product(range(len(one)), repeat=2))
    return all((one[i] < one[j], one[i] == one[j]) == (other[i] < other[j], other[i] == other[j]) for i, j in pairs)


def is_canonical(given, values):
    """Whether a tuple is canonical by the definition."""
    for place in {place_of(given, value) for value in values}:
        if place % 2 == 1:
            continue
        used = {value for value in values if place_of(given, value) == place}
        if not given:
            nearest = range(len(used))
        elif place == 0:
            nearest = range(min(given) - len(used), min(given))
        else:
            first = sorted(given)[place // 2 - 1] + 1
            nearest = range(first, first + len(used))
        if used != set(nearest):
            return False
    return True


def near(given, many):
    """The integers that are at most so far from a given one, or from 0."""
    around = given or (0,)
    return sorted({one + step for one in around for step in range(-many, many + 1)})


class Names(unittest.TestCase):
    def test_names(self):
        for value in ("a", "z", "self", "abcdefgh", "question", "and", "not", "def"):
            self.assertIs(is_name(value), True, value)

    def test_no_names(self):
        for value in ("", "abcdefghi", "A", "aB", "a1", "a_", "a b", " a", "a\n", "`", "{", "-"):
            self.assertIs(is_name(value), False, value)

    def test_any_value(self):
        for value in (*VALUES, Line(1), Line().placements(0)):
            right = type(value) is str and value in ("x", "and", "always")
            self.assertIs(is_name(value), right, value)


class Compare(unittest.TestCase):
    def test_integers(self):
        for one, other, told in ((1, 2, -1), (2, 1, 1), (2, 2, 0), (-FAR, FAR, -1), (FAR + 1, FAR, 1), (FAR, FAR, 0)):
            self.assertEqual(compare(one, other), told)
            self.assertIs(type(compare(one, other)), int)

    def test_errors(self):
        for value in [*NO_NUMBERS, Line(1)]:
            for arguments in ((value, 1), (1, value), (value, value)):
                with self.assertRaises(InvalidOperation):
                    compare(*arguments)


class Lines(unittest.TestCase):
    def test_given(self):
        for given in SETS:
            for order in itertools.permutations(given + given[:1]):
                self.assertEqual(Line(*order).given, given)
                self.assertEqual(Line.of(order), Line(*given))
        self.assertEqual(Line.of(()).given, ())

    def test_made_wrong(self):
        for value in [*NO_NUMBERS, Line(1)]:
            for arguments in ((value,), (1, value), (value, 1), (value, value)):
                with self.assertRaises(InvalidOperation):
                    Line(*arguments)
                with self.assertRaises(InvalidOperation):
                    Line.of(arguments)
        for value in [*NO_TUPLES, [1, 2], Line(1)]:
            with self.assertRaises(InvalidOperation):
                Line.of(value)

    def test_given_is_not_set(self):
        with self.assertRaises(AttributeError):
            Line(1).given = (2,)

    def test_place(self):
        for given in SETS:
            line = Line(*given)
            for number in near(given, 5) + [FAR * 9, -FAR * 9]:
                self.assertEqual(line(number), place_of(given, number))
        self.assertEqual([Line(5, 7)(number) for number in (4, 5, 6, 7, 8)], [0, 1, 2, 3, 4])
        self.assertEqual(Line(5, 6)(7), 4)

    def test_place_wrong(self):
        for value in [*NO_NUMBERS, Line(1)]:
            with self.assertRaises(InvalidOperation):
                Line(1, 5)(value)

    def test_room(self):
        self.assertEqual([Line(5, 6, 9).room(place) for place in range(7)], [None, 1, 0, 1, 2, 1, None])
        self.assertEqual([Line(4).room(place) for place in range(3)], [None, 1, None])
        self.assertEqual(Line().room(0), None)
        self.assertEqual(Line(-FAR, FAR).room(2), 2 * FAR - 1)

    def test_room_wrong(self):
        for line in (Line(), Line(4), Line(5, 6, 9)):
            for value in [*NO_NUMBERS, -1, 2 * len(line) + 1, FAR, line]:
                with self.assertRaises(InvalidNumber) as caught:
                    line.room(value)
                self.assertIs(caught.exception.value, value)

    def test_operators(self):
        for one, other in itertools.product(SETS, repeat=2):
            joined = Line(*one) | Line(*other)
            self.assertEqual(joined.given, tuple(sorted({*one, *other})))
            self.assertIs(Line(*one) == Line(*other), one == other)
            self.assertIs(Line(*one) != Line(*other), one != other)
        for given in SETS:
            line = Line(*given)
            self.assertEqual(len(line), len(given))
            self.assertIs(bool(line), len(given) > 0)
            self.assertEqual(str(line), f"line of {len(given)} integers")
            for number in near(given, 3):
                self.assertIs(number in line, number in given)

    def test_operators_with_any_value(self):
        line = Line(0, 1, 4)
        for value in [*VALUES, (0, 1, 4), [0, 1, 4]]:
            self.assertIs(value in line, is_whole(value) and value in (0, 1, 4), value)
            self.assertIs(line == value, False)
            self.assertIs(line != value, True)
            with self.assertRaises(InvalidOperation):
                line | value
        self.assertIs(line in line, False)

    def test_never_changes(self):
        one, other = Line(1, 5), Line(2)
        begun = one.placements(2)
        next(begun)
        joined = one | other
        joined |= Line(9)
        one.canonical(3, 4)
        one.are_alike((3,), (4,))
        self.assertEqual([one.given, other.given, joined.given], [(1, 5), (2,), (1, 2, 5, 9)])


class Canonical(unittest.TestCase):
    def test_against_definition(self):
        for given in SETS:
            line = Line(*given)
            for values in itertools.product(near(given, 2), repeat=2):
                moved = line.canonical_of(values)
                self.assertTrue(alike(given, values, moved), (given, values, moved))
                self.assertTrue(is_canonical(given, moved), (given, values, moved))
                self.assertEqual(line.canonical(*values), moved)

    def test_examples(self):
        self.assertEqual(Line(5, 100).canonical(90, 50, 50, 5, 2, -FAR, 2, FAR), (7, 6, 6, 5, 4, 3, 4, 101))
        self.assertEqual(Line().canonical(FAR, -FAR, 3, 3), (2, 0, 1, 1))
        self.assertEqual(Line(1, 3).canonical(2, 2, 1), (2, 2, 1))
        self.assertEqual([Line(1).canonical(), Line().canonical_of(())], [(), ()])
        self.assertEqual(Line(0).canonical(*range(9, 0, -1)), tuple(range(9, 0, -1)))

    def test_wrong(self):
        line = Line(1, 5)
        for value in [*NO_NUMBERS, line]:
            for arguments in ((value,), (2, value), (value, 2), (value, value)):
                with self.assertRaises(InvalidOperation):
                    line.canonical(*arguments)
                with self.assertRaises(InvalidOperation):
                    line.canonical_of(arguments)
        for value in [*NO_TUPLES, line]:
            with self.assertRaises(InvalidOperation):
                line.canonical_of(value)


class Alike(unittest.TestCase):
    def test_against_definition(self):
        for given in ((), (0,), (0, 2), (0, 1), (0, 9)):
            tuples = [values for many in range(3) for values in itertools.product(near(given, 2), repeat=many)]
            for one, other in itertools.product(tuples, repeat=2):
                self.assertIs(Line(*given).are_alike(one, other), alike(given, one, other), (given, one, other))

    def test_length(self):
        self.assertIs(Line(1).are_alike((5,), (5, 5)), False)
        self.assertIs(Line(1).are_alike((5, 5), (5,)), False)
        self.assertIs(Line(1).are_alike((), ()), True)
        self.assertIs(Line().are_alike((FAR, -FAR, 2), (2, 0, 1)), True)

    def test_wrong(self):
        for value in [*NO_TUPLES, Line(1)]:
            for arguments in ((value, ()), ((1, 2), value), (value, value)):
                with self.assertRaises(InvalidOperation):
                    Line(1).are_alike(*arguments)


class Placements(unittest.TestCase):
    def test_against_definition(self):
        for given in SETS:
            for many in range(4 if len(given) < 4 else 3):
                values = near(given, many + 1)
                right = [one for one in itertools.product(values, repeat=many) if is_canonical(given, one)]
                self.assertEqual(list(Line(*given).placements(many)), right, (given, many))

    def test_four(self):
        for given in ((), (0,), (0, 2), (0, 3)):
            right = [one for one in itertools.product(near(given, 4), repeat=4) if is_canonical(given, one)]
            self.assertEqual(list(Line(*given).placements(4)), right, given)
        self.assertEqual(len(list(Line(0, 1, 2, 3).placements(4))), 2548)

    def test_each_tuple_has_one(self):
        for given in ((), (0,), (0, 2), (0, 1, 5)):
            line = Line(*given)
            for many in range(3):
                found = list(line.placements(many))
                for values in itertools.product(near(given, 3), repeat=many):
                    self.assertEqual([one for one in found if alike(given, one, values)], [line.canonical_of(values)])

    def test_places_without_integers(self):
        self.assertEqual(list(Line(3, 4).placements(1)), [(2,), (3,), (4,), (5,)])
        self.assertIn((4, 5, 4, 6), list(Line(3, 6).placements(4)))
        self.assertNotIn((4, 5, 6, 7), [one for one in Line(3, 5).placements(4) if one[1] < 5])

    def test_far(self):
        found = list(Line(FAR, FAR + 2).placements(2))
        self.assertEqual(found, [tuple(FAR + value for value in one) for one in Line(0, 2).placements(2)])

    def test_wrong(self):
        for value in [*NO_NUMBERS, -1, 5, FAR, Line()]:
            begun = Line(1).placements(value)
            with self.assertRaises(InvalidNumber) as caught:
                next(begun)
            self.assertIs(caught.exception.value, value)
        self.assertEqual(list(Line(1).placements(0)), [()])

    def test_in_part_and_two_at_a_time(self):
        line = Line(0, 2)
        whole = list(line.placements(3))
        one, other = line.placements(3), line.placements(3)
        first = list(itertools.islice(one, 5))
        both = [(a, b) for a, b in zip(one, other)]
        self.assertEqual(first, whole[:5])
        self.assertEqual(both, list(zip(whole[5:], whole)))
        self.assertEqual(list(line.placements(3)), whole)

    def test_many_given(self):
        self.assertEqual(list(itertools.islice(Line(*range(300)).placements(4), 2)), [(-4, -3, -2, -1), (-4, -3, -1, -2)])


if __name__ == "__main__":
    unittest.main()
