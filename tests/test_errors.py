"""[0.18]: the classes of the errors."""
import unittest

from needrows import errors

WITH_MESSAGE = (
    "InvalidName", "InvalidCondition", "InvalidQuestion", "InvalidRow", "InvalidLog", "InvalidKind", "InvalidRest",
    "InvalidState", "InvalidMark", "InvalidOperation", "ParseError", "InvalidCommand",
)
WITH_VALUE = (
    ("InvalidNumber", IndexError, "value"), ("UnknownName", KeyError, "name"),
    ("TooMany", OverflowError, "limit"), ("NothingToUndo", LookupError, "many"),
)


class Errors(unittest.TestCase):
    def test_base(self):
        self.assertEqual(errors.RowsError.__bases__, (ValueError,))
        self.assertIsInstance(errors.RowsError("some words"), ValueError)

    def test_with_message(self):
        for name in WITH_MESSAGE:
            with self.subTest(name):
                self.assertEqual(getattr(errors, name).__bases__, (errors.RowsError,))
                with self.assertRaises(errors.RowsError):
                    raise getattr(errors, name)("some words")

    def test_with_value(self):
        for name, base, attribute in WITH_VALUE:
            with self.subTest(name):
                made = getattr(errors, name)
                self.assertEqual(made.__bases__, (base,))
                self.assertFalse(issubclass(made, errors.RowsError))
                for value in (0, -7, True, None, "x", (1, [2]), {"x": 1}):
                    self.assertIs(getattr(made(value), attribute), value)
                    with self.assertRaises(base):
                        raise made(value)

    def test_none_derived_from_another(self):
        names = WITH_MESSAGE + tuple(row[0] for row in WITH_VALUE)
        self.assertEqual(len(set(names)), 16)
        for one in names:
            for other in names:
                if one != other:
                    self.assertFalse(issubclass(getattr(errors, one), getattr(errors, other)), (one, other))


if __name__ == "__main__":
    unittest.main()
