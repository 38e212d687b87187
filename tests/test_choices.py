"""needrows.base.choices: sets of choices, held against all choices one by one."""
import itertools
import random
import unittest

from needrows.base.choices import Choices, first_member, joined, members
from needrows.base.numbers import Line, candidates
from tests.helpers import judge, random_condition
from tests.test_numbers import is_canonical

PARTS = (
    [(("a",), ((0,), (2,), (5,)))],
    [(("a",), ((-1,), (3,))), (("b",), ((-1,), (0,), (3,)))],
    [(("b", "a"), ((0, 5), (0, 7), (3, -2), (4, 7)))],
    [(("a", "c"), ((1, 1), (2, 0), (2, 9))), (("b",), ((0,), (1,), (2,), (7,)))],
    [(("c",), ((4,),)), (("a", "b"), ((0, 1), (1, 0), (4, 4))), (("d",), ((0,), (3,)))])


class Sets(unittest.TestCase):
    def test_where(self):
        source = random.Random(111)
        for parts in PARTS:
            columns = [column for part, _ in parts for column in part]
            others = {column: source.randrange(-1, 6) for column in "abcd" if column not in columns}
            choices = Choices(parts)
            every = [dict(zip(columns, sum(rows, ()))) for rows in itertools.product(*(rows for _, rows in parts))]
            self.assertEqual(choices.full, 2 ** len(every) - 1)
            for at, (numbers, rows) in enumerate(zip(every, itertools.product(*(rows for _, rows in parts)))):
                self.assertEqual([choices.numbers_at(at), choices.rows_at(at)], [numbers, list(rows)])
            for _ in range(80):
                condition = random_condition(source, ("a", "b", "c", "d"), 4)
                told = judge(condition, "abcd")
                right = [at for at, one in enumerate(every) if told(*({**others, **one}[column] for column in "abcd"))]
                self.assertEqual(list(members(choices.where(condition, others))), right, condition)

    def test_members(self):
        for numbers in ((), (0,), (3,), (0, 1, 9), (5, 700)):
            found = joined([1 << number for number in numbers])
            self.assertEqual(list(members(found)), list(numbers))
            if numbers:
                self.assertEqual(first_member(found), numbers[0])

    def test_plain(self):
        for given, many in (((), 3), ((0,), 3), ((0, 1), 2), ((0, 2, 9), 2), ((-4, 1), 1), ((0, 1, 2, 3), 4)):
            rows = [(number,) for number in candidates(given, many)]
            choices = Choices([((column,), rows) for column in "abcd"[:many]])
            found = [tuple(choices.numbers_at(at).values()) for at in members(choices.plain(given))]
            every = itertools.product(candidates(given, many), repeat=many)
            self.assertEqual(found, [one for one in every if is_canonical(given, one)])
            self.assertEqual(found, list(Line.of(given).placements(many)))


if __name__ == "__main__":
    unittest.main()
