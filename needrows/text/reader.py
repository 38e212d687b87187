"""Reading the words of a text."""
from needrows.base.conditions import MAX_DEEP, MAX_WRITTEN, SIGNS
from needrows.errors import ParseError

MOST_DIGITS = 40
_JOINTS = {"&": "and", "|": "or"}


def integer_of(word):
    """Return the integer that a word is."""
    digits = word.removeprefix("-")
    if not digits.isascii() or not digits.isdigit() or len(digits) > MOST_DIGITS:
        raise ParseError("not an integer")
    return int(word)


class Reader:
    """Reads a condition from the words of a text, one after the other."""

    def __init__(self, text):
        self._words = text.replace("(", "( ").replace(")", " )").split(" ")
        self._at = 0

    def read_condition(self):
        """Return what has the form of a condition, from all words."""
        found = self._joint(0)
        if self._at < len(self._words):
            raise ParseError("more than a condition")
        return found

    def _next(self, ahead=0):
        """Return the next word, or one behind it; there is an empty one at the end."""
        at = self._at + ahead
        return self._words[at] if at < len(self._words) else ""

    def _joint(self, deep):
        """Read one condition, or several that are joined, so deep in parentheses."""
        parts = [self._part(deep)]
        sign = self._next()
        if sign not in _JOINTS:
            return parts[0]
        while self._next() == sign:
            self._at = self._at + 1
            parts.append(self._part(deep))
        return (_JOINTS[sign], *parts)

    def _part(self, deep):
        """Read one condition that is not joined with others, or stands in parentheses."""
        word = self._next()
        if word in ("(", "!("):
            return self._enclosed(word, deep)
        if self._next(1) in SIGNS:
            found = (self._next(1), _term(word), _term(self._next(2)))
            self._at = self._at + 3
            return found
        self._at = self._at + 1
        return (word,)

    def _enclosed(self, word, deep):
        """Read a condition in parentheses, with or without "not" ahead of them."""
        # Deeper conditions are none; so they are left before they could become too deep to be read.
        if deep == MAX_DEEP:
            raise ParseError("too deep")
        self._at = self._at + 1
        inner = self._joint(deep + 1)
        if self._next() != ")":
            raise ParseError("no end of the parentheses")
        self._at = self._at + 1
        return inner if word == "(" else ("not", inner)


def _term(word):
    """Return the written integer that a word is, or the word itself."""
    for number in range(MAX_WRITTEN + 1):
        if word == str(number):
            return number
    return word
