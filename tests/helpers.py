"""What the tests share: wrong values, an oracle for conditions, and conditions made at random.

The oracle does not use the package: it turns a condition into a Python expression
and tries it with all integers of a window that holds every order of four columns.
"""
import itertools
import random

SIGNS = ("<", "<=", "=", "!=")
FAR = 10 ** 39 + 7


def nested(value, times, wrap):
    """The value, wrapped so many times."""
    for _ in range(times):
        value = wrap(value)
    return value


# Values of every kind that can be passed; what is right for a parameter is sifted out by each test.
VALUES = (
    0, 1, 3, 4, -1, -5, FAR, -FAR, True, False, None,
    "", "x", "and", "X", "xy z", "abcdefghi", "a1", "\n", "x\n", "always", "~ !", "<",
    (), ("x",), (0,), (1, 2), (True,), (1, None), ("always", "never"), ("ALWAYS",), ((),), (("always",),),
    [], [1], ["always"], ["<", "x", 1], [[]], {}, {"x": 1}, {"x": True}, {1: "x"}, {(): []}, {"x": {"x": ()}},
    (1, (2, (3,))), [("always",)], ({"a": [None]},),
    nested((), 19, lambda inner: (inner,)), nested([], 19, lambda inner: [inner]),
    nested({}, 19, lambda inner: {"x": inner}), nested(("always",), 19, lambda inner: ("not", inner)),
    nested(("<", "x", "y"), 19, lambda inner: ("and", inner, inner)),
)


def is_whole(value):
    return type(value) is int


def expression(condition):
    """The Python expression of a condition."""
    word = condition[0]
    if word in ("always", "never"):
        return str(word == "always")
    if word == "not":
        return f"(not {expression(condition[1])})"
    if word in ("and", "or"):
        return "(" + f" {word} ".join(expression(part) for part in condition[1:]) + ")"
    sign = {"=": "=="}.get(word, word)
    one, other = ("v_" + term if isinstance(term, str) else str(term) for term in condition[1:])
    return f"({one} {sign} {other})"


def columns_in(*conditions):
    """The ascending columns of some conditions, found without the package."""
    found = set()
    for condition in conditions:
        if condition[0] in SIGNS:
            found.update(term for term in condition[1:] if isinstance(term, str))
        elif condition[0] in ("not", "and", "or"):
            found.update(columns_in(*condition[1:]))
    return sorted(found)


def comparisons_in(condition):
    """The comparisons of a condition in the order in which they stand, found without the package."""
    if condition[0] in SIGNS:
        return [condition]
    if condition[0] in ("not", "and", "or"):
        return [one for part in condition[1:] for one in comparisons_in(part)]
    return []


def judge(condition, columns):
    """A function of integers for these columns that tells whether the condition holds."""
    names = ", ".join("v_" + column for column in columns)
    return eval(f"lambda {names}: {expression(condition)}")


def window(columns):
    """All tuples of integers for some columns in which each order among them and 0 to 3 occurs."""
    many = len(columns)
    return itertools.product(range(-many, 4 + many), repeat=many)


def truths(condition, columns):
    """The tuple that tells for each tuple of the window whether the condition holds."""
    told = judge(condition, columns)
    return tuple(told(*numbers) for numbers in window(columns))


def replaced(condition, comparison, constant):
    """The condition with a constant in all places of a comparison."""
    if condition == comparison:
        return constant
    if condition[0] in ("not", "and", "or"):
        return (condition[0], *(replaced(part, comparison, constant) for part in condition[1:]))
    return condition


def idle_in(condition):
    """The idle comparisons of a condition by their definition."""
    columns = columns_in(condition)
    told = truths(condition, columns)
    return tuple(
        one for one in dict.fromkeys(comparisons_in(condition))
        if told in [truths(replaced(condition, one, (word,)), columns) for word in ("always", "never")])


def order_of(numbers, points):
    """How integers compare with one another and with the points."""
    return tuple((one > other) - (one < other) for one in numbers for other in (*numbers, *points))


def random_condition(source, columns, deep=4, points=(0, 1, 2, 3)):
    """A condition of at most this depth, with a few parts."""
    kind = source.randrange(10)
    if deep == 1 or kind < 3:
        if source.randrange(12) == 0:
            return (source.choice(("always", "never")),)
        one = source.choice(columns)
        other = source.choice(tuple(columns) + tuple(points))
        terms = (one, other) if source.randrange(2) else (other, one)
        return (source.choice(SIGNS), *terms)
    if kind < 5:
        return ("not", random_condition(source, columns, deep - 1, points))
    many = source.choice((2, 2, 2, 3))
    inner = (random_condition(source, columns, deep - 1, points) for _ in range(many))
    return (source.choice(("and", "or")), *inner)


def random_conditions(seed, many, columns, deep=4, points=(0, 1, 2, 3)):
    """The same conditions at each call, of at most forty parts each."""
    source = random.Random(seed)
    found = []
    while len(found) < many:
        condition = random_condition(source, columns, deep, points)
        if count_parts(condition) <= 40:
            found.append(condition)
    return found


def count_parts(condition):
    if condition[0] in ("not", "and", "or"):
        return 1 + sum(count_parts(part) for part in condition[1:])
    return 1


def wide(sizes, leaf=("<", "x", 1)):
    """An "and" of "or"s with so many leaves each."""
    return ("and", *(("or", *[leaf] * size) for size in sizes))


FORTY = wide((6, 6, 6, 5, 5, 5))
FORTY_ONE = wide((6, 6, 6, 6, 5, 5))
EIGHT_DEEP = nested(("<", "x", 1), 7, lambda inner: ("not", inner))
NINE_DEEP = nested(("<", "x", 1), 8, lambda inner: ("not", inner))
FOUR_COLUMNS = ("and", ("<", "a", "b"), ("<", "c", "d"))
FIVE_COLUMNS = ("and", ("<", "a", "b"), ("<", "c", "d"), ("<", "e", 1))

WRONG_CONDITIONS = tuple(VALUES) + (
    FORTY_ONE, NINE_DEEP, FIVE_COLUMNS,
    ("always", ("always",)), ("never", 1), ("Always",), ("",), (None,), (1,), (True,), (("always",), ("always",)),
    ("<",), ("<", "x"), ("<", "x", "y", "z"), ("<", 1, 2), ("=", 0, 0), ("<", "x", 4), ("<", "x", -1),
    ("<", "x", True), ("<=", False, "x"), ("<", "x", None), ("<", "X", 1), ("<", "", 1), ("<", "abcdefghi", 1),
    ("<", "x", "y "), ("<", "x", ("y",)), ("<", ["x"], 1), (">", "x", 1), ("==", "x", 1),
    ("not",), ("not", "x"), ("not", ("always",), ("always",)), ("not", ["always"]), ("not", ("<", "x", 4)),
    ("and",), ("and", ("always",)), ("or", ("never",)), ("and", *[("always",)] * 7), ("or", *[("never",)] * 7),
    ("and", (("always",), ("always",))), ("or", ("always",), None), ("and", ("always",), ["always"]),
    ("xor", ("always",), ("never",)), ["<", "x", 1], {"<": ("x", 1)}, ("<", {"x": 1}, 1),
)

RIGHT_CONDITIONS = (
    ("always",), ("never",), ("<", "x", 0), ("<=", 3, "x"), ("=", "x", "x"), ("!=", "and", "not"),
    ("<", "abcdefgh", "a"), ("not", ("not", ("always",))), ("and", ("always",), ("always",)),
    ("or", *[("never",)] * 6), FORTY, EIGHT_DEEP, FOUR_COLUMNS,
)
