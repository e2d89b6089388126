"""Lengths: sets of integers from 1 on that are the same again and again from some integer on."""

from math import lcm

from thirdback.checks import is_integer, is_number
from thirdback.errors import InvalidNumber, InvalidText, NotLengths

_FARTHEST = 1000

# The digits of the result where the one and the other have 00, 01, 10 and 11.
_IN_BOTH = "0001"
_IN_ANY = "0111"
_IN_FIRST_ALONE = "0010"
_OPPOSITE = {"0": "1", "1": "0"}


class Lengths:
    """A set of integers from 1 on, digit by digit: some digits, then others without end. Lengths never change."""

    def __init__(self, head, tail):
        if not _is_digits(head):
            raise InvalidText(head)
        if not _is_digits(tail) or tail == "":
            raise InvalidText(tail)
        self._head, self._tail = _shortest(head, _root(tail))

    @classmethod
    def read(cls, text):
        """The lengths with this text, which need not be the shortest."""
        if not isinstance(text, str) or not text.endswith(")"):
            raise InvalidText(text)
        head, _, tail = text[:-1].partition("(")
        if not _is_digits(head) or not _is_digits(tail) or tail == "":
            raise InvalidText(text)
        return cls(head, tail)

    @property
    def head(self):
        """The digits ahead of the parentheses in the shortest text."""
        return self._head

    @property
    def tail(self):
        """The digits in the parentheses of the shortest text."""
        return self._tail

    def up_to(self, number):
        """All that are at most this number, ascending."""
        if not is_number(number, 0, _FARTHEST):
            raise InvalidNumber(number)
        for value in range(1, number + 1):
            if value in self:
                yield value

    def __contains__(self, value):
        return is_integer(value) and value >= 1 and _digit(self, value) == "1"

    def __and__(self, other):
        """Those in both."""
        return _joined(self, other, _IN_BOTH)

    def __or__(self, other):
        """Those in one or both."""
        return _joined(self, other, _IN_ANY)

    def __sub__(self, other):
        """Those in the one but not in the other."""
        return _joined(self, other, _IN_FIRST_ALONE)

    def __invert__(self):
        """All integers from 1 on that are not in them."""
        return Lengths(_opposite(self._head), _opposite(self._tail))

    def __bool__(self):
        return "1" in self._head or "1" in self._tail

    def __eq__(self, other):
        return isinstance(other, Lengths) and self._head == other._head and self._tail == other._tail

    def __str__(self):
        return f"{self._head}({self._tail})"


def _is_digits(value):
    """Whether it is a string of digits 0 and 1."""
    return isinstance(value, str) and all([digit in _OPPOSITE for digit in value])


def _root(tail):
    """The shortest digits that make the tail when they are written again and again."""
    for length in range(1, len(tail)):
        if len(tail) % length == 0 and tail == tail[:length] * (len(tail) // length):
            return tail[:length]
    return tail


def _shortest(head, tail):
    """Head and tail without the digits at the end of the head that the tail, turned, can say as well."""
    same = 0
    while same < len(head) and head[len(head) - 1 - same] == tail[len(tail) - 1 - same % len(tail)]:
        same += 1
    cut = len(tail) - same % len(tail)
    return head[:len(head) - same], tail[cut:] + tail[:cut]


def _digit(lengths, value):
    """The digit of an integer from 1 on."""
    behind = value - 1 - len(lengths.head)
    if behind < 0:
        return lengths.head[value - 1]
    return lengths.tail[behind % len(lengths.tail)]


def _joined(one, other, results):
    """The lengths with the result for the digits of the two, see above."""
    if not isinstance(other, Lengths):
        raise NotLengths(other)
    ahead = max(len(one.head), len(other.head))
    count = ahead + lcm(len(one.tail), len(other.tail))
    pairs = [2 * int(_digit(one, value)) + int(_digit(other, value)) for value in range(1, count + 1)]
    text = "".join([results[pair] for pair in pairs])
    return Lengths(text[:ahead], text[ahead:])


def _opposite(digits):
    """The other digit in the place of each."""
    return "".join([_OPPOSITE[digit] for digit in digits])
