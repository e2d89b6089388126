"""The lengths of thirdback.lengths (points 2 to 5 and 16)."""

import itertools
import operator
import random
import unittest

from common import A, EQUAL_TO_ALL, MANY_DIGITS, ODD_VALUES, assert_error, assert_errors_in_order, given
from thirdback import lengths as module
from thirdback.errors import InvalidNumber, InvalidText, NotLengths
from thirdback.lengths import Lengths

EVEN = Lengths("", "01")
DIGITS = tuple(["".join(digits) for count in range(5) for digits in itertools.product("01", repeat=count)])
NO_DIGITS = tuple([value for value in ODD_VALUES if value != ""]) + (
    "2", "01a", "0 1", " 01", "01 ", "01\n", "(01)", "0(1)", "-1", "10.", "O1", "l", "0" * 3999 + "2", b"01", ["0"],
    ("0", "1"), 1, EVEN, EQUAL_TO_ALL)
NO_LENGTHS = ODD_VALUES + (A, "(01)", "01", Lengths, [EVEN], (EVEN,), (1, 2), {1: True}, range(3), EQUAL_TO_ALL)


def has(head, tail, number):
    """Whether these lengths have the integer, read off the digits."""
    digits = head + tail * (number // len(tail) + 1)
    return digits[number - 1] == "1"


def shortest(head, tail):
    """The shortest text of these lengths, found by trying all, shorter ones first."""
    wanted = [has(head, tail, number) for number in range(1, 60)]
    for ahead, within in itertools.product(range(len(tail) + 1), range(len(head) + 1)):
        within, ahead = ahead, within
        if within == 0:
            continue
        digits = "".join(["01"[has(head, tail, number)] for number in range(1, ahead + within + 1)])
        if [has(digits[:ahead], digits[ahead:], number) for number in range(1, 60)] == wanted:
            return f"{digits[:ahead]}({digits[ahead:]})"


class MakingTest(unittest.TestCase):
    def test_shortest_text(self):
        texts = {}
        for head in DIGITS:
            for tail in DIGITS[1:]:
                expected = shortest(head, tail)
                with self.subTest(head=head, tail=tail):
                    for made in (Lengths(head, tail), Lengths(tail=tail, head=head), Lengths.read(f"{head}({tail})"),
                                 Lengths.read(text=f"{head}({tail})")):
                        self.assertIs(Lengths, made.__class__)
                        self.assertEqual(expected, str(made))
                        self.assertEqual(expected, f"{made.head}({made.tail})")
                texts.setdefault(tuple(has(head, tail, number) for number in range(1, 60)), expected)
                self.assertEqual(expected, texts[tuple(has(head, tail, number) for number in range(1, 60))])

    def test_written_out(self):
        for text, expected in (("(0)", "(0)"), ("0000(000)", "(0)"), ("01(11)", "0(1)"), ("01(0101)", "(01)"),
                               ("1(01)", "(10)"), ("11(01)", "1(10)"), ("0(10)", "(01)"), ("001(001001)", "(001)"),
                               ("1(001)", "(100)"), ("01(001)", "(010)"), ("1001(0011)", "100(1001)"),
                               ("111(1)", "(1)"),
                               ("10110(110)", "(101)"), ("0" * 1500 + "(" + "0" * 1500 + ")", "(0)"),
                               ("01" * 900 + "(" + "01" * 900 + ")", "(01)"),
                               ("1" * 1999 + "0(" + "1" * 1999 + "0)", "(" + "1" * 1999 + "0)")):
            self.assertEqual(expected, str(Lengths.read(text)))

    def test_what_is_no_text(self):
        for value in NO_LENGTHS + ("", "()", "(", ")", "0", "01", "0()", "(0", "0)", ")0(", "((0))", "(0)(1)", "(0)1",
                                   " (0)", "(0) ", "(0)\n", "0 (1)", "(2)", "2(0)", "(0 1)", "(01", "01)", "(0))",
                                   "((0)", "0(1)0", "a(0)", "(a)", b"(0)", "(" * 3000, "()" * 1000, "(0" + "1" * 3000):
            if value == "(01)":
                continue
            with self.subTest(value):
                assert_error(self, InvalidText, "given", value, lambda: Lengths.read(value))
                assert_error(self, InvalidText, "given", value, lambda: Lengths.read(text=value))

    def test_wrong_arguments_in_order(self):
        assert_errors_in_order(self, Lengths, {"head": "", "tail": "0"}, {
            "head": given(InvalidText, NO_DIGITS), "tail": given(InvalidText, NO_DIGITS + ("",))})

    def test_never_changes(self):
        for name in ("head", "tail"):
            with self.subTest(name), self.assertRaises(AttributeError):
                setattr(EVEN, name, "1")
        self.assertEqual("(01)", str(EVEN))

    def test_equality_and_truth(self):
        found = [Lengths.read(text) for text in ("(0)", "(1)", "0(1)", "(01)", "(10)", "1(0)", "01(0)", "1(10)")]
        for i, one in enumerate(found):
            for j, other in enumerate(found):
                again = Lengths(other.head + other.tail, other.tail * 3)
                self.assertIs(i == j, one == again)
                self.assertIs(i != j, one != again)
            self.assertIs(i > 0, bool(one))
        self.assertFalse(Lengths("000", "00"))
        self.assertTrue(Lengths("0001", "0"))
        for value in NO_LENGTHS:
            with self.subTest(value):
                if value is not EQUAL_TO_ALL:
                    self.assertIs(False, value == EVEN)
                self.assertIs(False, EVEN == value)
                self.assertIs(True, EVEN != value)


class AskingTest(unittest.TestCase):
    def test_members(self):
        for head in DIGITS[::3]:
            for tail in DIGITS[1::2]:
                made = Lengths(head, tail)
                for number in range(1, 30):
                    self.assertIs(has(head, tail, number), number in made)
        self.assertIs(True, 10 ** 30 in EVEN)
        self.assertIs(False, 10 ** 30 + 1 in EVEN)
        self.assertIs(MANY_DIGITS % 3 == 1, MANY_DIGITS in Lengths("", "100"))

    def test_nothing_else_is_a_member(self):
        for lengths in (Lengths("", "1"), Lengths("0", "1"), EVEN, ~EVEN):
            for value in (0, -1, -2, -MANY_DIGITS, True, False, None, "1", "2", (1,), (2,), [1], b"1", {}, A, EVEN,
                          EQUAL_TO_ALL, object()):
                self.assertIs(False, value in lengths)

    def test_up_to(self):
        for head in DIGITS[::3]:
            for tail in DIGITS[1::3]:
                made = Lengths(head, tail)
                for number in (0, 1, 2, 3, 7, 20):
                    expected = [value for value in range(1, number + 1) if has(head, tail, value)]
                    self.assertEqual(expected, list(made.up_to(number)))
                    self.assertEqual(expected, list(made.up_to(number=number)))
        self.assertEqual(list(range(1, 1001)), list(Lengths("", "1").up_to(1000)))
        self.assertEqual([1000], list(Lengths("0" * 999, "1").up_to(1000)))

    def test_up_to_asked_twice_and_left_half_way(self):
        generator = EVEN.up_to(9)
        self.assertIs(generator, iter(generator))
        self.assertEqual([2, 4], [next(generator), next(generator)])
        self.assertEqual([2, 4, 6, 8], list(EVEN.up_to(9)))
        self.assertEqual([6, 8], list(generator))
        self.assertEqual([], list(generator))

    def test_up_to_no_number(self):
        for value in [value for value in ODD_VALUES if isinstance(value, bool) or value not in (0, 1, 7)] + [
                1001, 10 ** 6, -1, "9", (9,), EVEN, EQUAL_TO_ALL]:
            with self.subTest(value):
                assert_error(self, InvalidNumber, "given", value, lambda: next(EVEN.up_to(value)))
                assert_error(self, InvalidNumber, "given", value, lambda: list(EVEN.up_to(number=value)))


class SignTest(unittest.TestCase):
    def test_signs(self):
        source = random.Random(80)
        for _ in range(400):
            parts = [(source.choice(DIGITS), source.choice(DIGITS[1:])) for _ in range(2)]
            one, other = [Lengths(*part) for part in parts]
            before = str(one), str(other)
            for made, rule in ((one & other, lambda i, j: i and j), (one | other, lambda i, j: i or j),
                               (one - other, lambda i, j: i and not j), (~one, lambda i, j: not i)):
                self.assertIs(Lengths, made.__class__)
                for number in range(1, 40):
                    expected = rule(*[has(*part, number) for part in parts])
                    self.assertIs(expected, number in made)
                self.assertEqual(shortest(made.head, made.tail), str(made))
            self.assertEqual(before, (str(one), str(other)))
            self.assertEqual(one & other, other & one)
            self.assertEqual(one, ~~one)
            self.assertEqual(one - other, one & ~other)

    def test_long_ones(self):
        one, other = Lengths("", "0" * 96 + "1"), Lengths("1" * 50, "0" * 88 + "1")
        self.assertEqual([97], list((one - other).up_to(100)))
        self.assertEqual(97 * 89, len((one & other).tail))
        self.assertEqual("(0)", str(one & ~one))

    def test_something_else(self):
        for sign in (operator.and_, operator.or_, operator.sub):
            for value in NO_LENGTHS:
                with self.subTest(value):
                    assert_error(self, NotLengths, "given", value, lambda: sign(EVEN, value))


class PlaceTest(unittest.TestCase):
    def test_everything_stands_in_its_class_and_file(self):
        self.assertEqual("thirdback.lengths", module.Lengths.__module__)
        for name in ("read", "head", "tail", "__str__", "__eq__", "__bool__", "__contains__", "up_to", "__and__",
                     "__or__", "__sub__", "__invert__"):
            self.assertIn(name, vars(Lengths))

    def test_example_of_the_document(self):
        self.assertEqual(["(01)", "1(10)", "(10)", True, False, [6, 8]], [
            str(Lengths("01", "0101")), str(EVEN | Lengths("1", "0")), str(~EVEN), 10 ** 30 in EVEN, 0 in EVEN,
            list((EVEN - Lengths("0101", "0")).up_to(9))])


if __name__ == "__main__":
    unittest.main()
