"""What the tests of kinds and rises share: kinds, rises and standard rises by their definitions, and wrong kinds."""
import itertools

from needrows.base.numbers import Line
from needrows.errors import InvalidKind
from tests.asked import EVERY, SHAPES, many_asked
from tests.helpers import is_whole
from tests.test_numbers import is_canonical

UP, SIDE = ((), (), (("up", (("x",),)),)), ((), (), (("up", (("x",), ("y",))),))
FALL = ((), (), (("up", (("x",),)), ("down", (("y",),))))


def ordered_parts(columns):
    """All ways to cut some columns into tuples, in all orders of these."""
    columns = sorted(columns)
    if not columns:
        return {()}
    found = set()
    for many in range(1, len(columns) + 1):
        for first in itertools.combinations(columns, many):
            for rest in ordered_parts(set(columns) - set(first)):
                found.add((first, *rest))
    return found


def items_of_all(columns):
    """All tuples of items with some columns."""
    found = set()
    for parts in ordered_parts(columns):
        choices = []
        for part in parts:
            groups = [(word, cut) for word in ("up", "down") for cut in ordered_parts(part)]
            choices.append([("stay", part), *groups])
        found.update(itertools.product(*choices))
    return found


def kinds_in(columns, points):
    """All kinds of a stream with these columns, ascending, by the definition."""
    found = []
    for sides in itertools.product(("below", "above", *points) if points else ("above",), repeat=len(columns)):
        below, above = ([one for one, side in zip(columns, sides) if side == name] for name in ("below", "above"))
        at = tuple(sorted((one, side) for one, side in zip(columns, sides) if is_whole(side)))
        for kind in itertools.product(items_of_all(below), (at,), items_of_all(above)):
            words = [item[0] for item in (*kind[0], *kind[2]) if item[0] != "stay"]
            if words and words[0] == "up":
                found.append(kind)
    return sorted(found)


def columns_in_item(item):
    return item[1] if item[0] == "stay" else [column for group in item[1] for column in group]


def rise_in(columns, points, kind, rows):
    """Whether rows are a rise of a kind by the definition."""
    below, at, above = kind
    tables = [dict(zip(columns, row)) for row in rows]
    if not rows or len(set(rows)) < len(rows):
        return False
    if any(table[column] != point for table in tables for column, point in at):
        return False
    for items, side in ((below, "below"), (above, "above")):
        numbers = [[table[column] for table in tables for column in columns_in_item(item)] for item in items]
        for one in numbers:
            for number in one:
                if any(number >= point if side == "below" else number <= point for point in points):
                    return False
        if any(max(one) >= min(other) for one, other in zip(numbers, numbers[1:])):
            return False
        if not all(item_rises(item, tables) for item in items):
            return False
    return True


def item_rises(item, tables):
    word, groups = item
    if word == "stay":
        return len({table[column] for table in tables for column in groups}) == 1
    for table in tables:
        if any(len({table[column] for column in group}) > 1 for group in groups):
            return False
        if any(table[one[0]] >= table[other[0]] for one, other in zip(groups, groups[1:])):
            return False
    every = [[table[column] for column in columns_in_item(item)] for table in tables]
    if word == "up":
        return all(max(one) < min(other) for one, other in zip(every, every[1:]))
    return all(min(one) > max(other) for one, other in zip(every, every[1:]))


def sign(one, other):
    return (one > other) - (one < other)


def uniform_in(columns, points, rows):
    """Whether rows are uniform by the definition."""
    if len(rows) < 3 or len(set(rows)) < len(rows):
        return False
    many = range(len(columns))
    later = {tuple(sign(one[c], other[d]) for c in many for d in many) for one, other in itertools.combinations(rows, 2)}
    inside = {tuple(sign(row[c], row[d]) for c in many for d in many) for row in rows}
    about = {tuple(sign(row[c], point) for c in many for point in points) for row in rows}
    return len(later) == len(inside) == len(about) == 1


def spans_in(columns, kind, row):
    """The spans of a row of a rise by the definition."""
    table = dict(zip(columns, row))
    items = [item for item in (*kind[0], *kind[2]) if item[0] != "stay"]
    numbers = [[table[column] for column in columns_in_item(item)] for item in items]
    return tuple((min(one), max(one)) for one in numbers)


def clear_in(columns, kind, row, numbers):
    return not any(least <= number <= greatest for least, greatest in spans_in(columns, kind, row) for number in numbers)


def plain_rests(asked, stream, rows):
    """All plain rests of some rows as tuples of integers, ascending, by the definition."""
    given = sorted({number for row in rows for number in row}.union(asked.points))
    many = asked.many_of_rest(stream)
    found = []
    for numbers in itertools.product(asked.numbers_near(stream, rows), repeat=many):
        if is_canonical(tuple(given), numbers):
            found.append(numbers)
    return found


# Questions of all shapes, each with one of its streams and some of its kinds.
def scenes(seed, many, most_kinds=2, most_rest=3):
    for at, asked in enumerate(many_asked(seed, many, SHAPES)):
        for stream in asked.streams:
            if asked.many_of_rest(stream) <= most_rest:
                kinds = kinds_in(asked.streams[stream], asked.points)
                step = max(1, len(kinds) // most_kinds)
                yield asked, stream, kinds[at % step::step][:most_kinds]


def no_kinds(kind):
    """Values that are no kinds of the left stream of a question with the columns x and y and without points."""
    x, y = (("x",),), (("y",),)
    below, at, above = kind
    return tuple(EVERY) + (
        ((), ()), ((), (), (), ()), [below, at, above], (list(below), at, above), (below, list(at), above),
        (below, at, list(above)), (above, at, above), (above, at, ()), ((), (("x", 1),), (("up", y),)),
        ((), (("y", True),), (("up", x),)), ((), (), (("up", x),)), ((), (), (("up", (("x",), ("z",))),)),
        ((), (), (("up", x), ("up", y), ("up", x))), ((), (), (("down", x), ("up", y))), ((), (), (("stay", ("x", "y")),)),
        ((), (), (("stay", ("x",)), ("stay", ("y",)))), ((), (), (("stay", ("x",)), ("down", y))),
        ((), (), (("up", (("y", "x"),)),)), ((), (), (("up", (("x", "x"),)),)), ((), (), (("up", x), ("stay", y))),
        ((), (), (("up", ("x",)), ("stay", ("y",)))), ((), (), (("up", ("x", "y")),)), ((), (), (("up", [("x", "y")]),)),
        ((), (), (("up", (["x", "y"],)),)), ((), (), (["up", (("x", "y"),)],)), ((), (), (("up", (("x", "y"),), 1),)),
        ((), (), (("up", ((), ("x", "y"))),)), ((), (), (("up", (("x", "y"), ())),)), ((), (), (("up", ()),)),
        ((), (), (("up", x), ("stay", ()), ("stay", ("y",)))), ((), (), (("up", ("xy",)),)), ((), (), ("up", x, "up", y)),
        ((), (), (("Up", x), ("up", y))), ((), (), ((None, x), ("up", y))), ((), (), (("up", x), ("rise", y))),
        ((), (), (("up", (("x",), ("y",), ("x",))),)), ((), (), (("up", ((1,), ("y",))),)), ((), (), (("up", {("x",): 1}),)),
        ((), (), (("stay", "x"), ("up", y))), ((), (), (("stay", ("y", "x")),)), ((), (), (("stay", [("x")]), ("up", y))),
        ((), None, above), (None, at, above), (below, at, None), ("", at, above), ((), (), above, ()), above, (above,),
        ((("up", x),), (), (("up", y),)), ((("up", x), ("up", y)), (), ()), (below, (("x", 0), ("y", 0)), ()),
        (Line(1), at, above), (below, at, (Line(1),)))


WRONG_KIND = (no_kinds(FALL), InvalidKind, None)
