"""The formulas of thirdback.formulas (points 3, 4, 5 and 9)."""

import operator
import random
import unittest

import slow
from common import (
    A, B, C, EQUAL_TO_ALL, NO_FORMULAS, NO_NAMES, ODD_VALUES, WRONG_FORMULA, assert_error, assert_errors_in_order,
    given)
from thirdback.errors import InvalidName, InvalidText, NotAFormula, TooMany
from thirdback.formulas import Formula, letter

SIGNED = (("*", operator.mul), ("//", operator.floordiv), (">>", operator.rshift))
IN_PLACE = (operator.imul, operator.ifloordiv, operator.irshift)

NAMES = ("a", "z", "a0", "a9", "zz", "abcdefgh", "x1234567", "a1b2c3d4")

PLAIN = Formula.read("(((a * b) // c) >> (a * b))")


def chain(count):
    """A formula with so many operations."""
    formula = A
    for _ in range(count):
        formula = formula * B
    return formula


def random_trees(seed, count):
    """Trees with none to eight operations."""
    source = random.Random(seed)
    for _ in range(count):
        names = source.sample(("a", "b", "x1", "zz", "abcdefgh", "a0"), source.randint(1, 6))
        yield slow.random_tree(source, names, source.randint(0, 8))


class LetterTest(unittest.TestCase):
    def test_letters(self):
        for name in NAMES:
            for formula in (letter(name), letter(name=name), Formula.read(name), Formula.read(text=name)):
                with self.subTest(name):
                    self.assertIs(Formula, formula.__class__)
                    self.assertEqual((name, name, "", None, None), (
                        str(formula), formula.name, formula.sign, formula.left, formula.right))
                    self.assertEqual((0, (name,), (formula,)), (len(formula), formula.letters, formula.parts))
                    self.assertTrue(formula)

    def test_wrong_names(self):
        assert_errors_in_order(self, letter, {"name": "a"}, {"name": given(InvalidName, NO_NAMES)})


class SignTest(unittest.TestCase):
    def test_signs(self):
        for sign, action in SIGNED:
            for left, right in ((A, B), (A, A), (A * B, C), (C, A // B), (A >> B, A >> B)):
                formula = action(left, right)
                with self.subTest(str(formula)):
                    self.assertEqual(f"({left} {sign} {right})", str(formula))
                    self.assertEqual((sign, None, left, right), (
                        formula.sign, formula.name, formula.left, formula.right))
                    self.assertEqual(len(left) + len(right) + 1, len(formula))

    def test_other_must_be_a_formula(self):
        for formula in (A, A * B, chain(8)):
            for _, action in SIGNED:
                for other in NO_FORMULAS:
                    with self.subTest(str(formula), other=other):
                        assert_error(self, NotAFormula, "given", other, lambda: action(formula, other))

    def test_at_most_eight_operations(self):
        for count in range(9):
            left, right = chain(count), chain(8 - count)
            for sign, action in SIGNED:
                with self.subTest(count, sign=sign):
                    assert_error(self, TooMany, "limit", 8, lambda: action(left, right))
                    assert_error(self, TooMany, "limit", 8, lambda: action(chain(8), right))
                    if count < 8:
                        self.assertEqual(8, len(action(left, chain(7 - count))))

    def test_operations_are_counted_as_written(self):
        half = A * B
        formula = half * half
        self.assertEqual((3, 7), (len(formula), len(formula * formula)))
        assert_error(self, TooMany, "limit", 8, lambda: (formula * formula) * half)

    def test_in_place_signs_make_new_formulas(self):
        for (_, action), in_place in zip(SIGNED, IN_PLACE):
            formula = kept = A * B
            formula = in_place(formula, C)
            self.assertEqual((action(kept, C), "(a * b)"), (formula, str(kept)))
            assert_error(self, NotAFormula, "given", "c", lambda: in_place(kept, "c"))
            assert_error(self, TooMany, "limit", 8, lambda: in_place(kept, chain(7)))
            self.assertEqual("(a * b)", str(kept))


class ReadTest(unittest.TestCase):
    def test_reads_what_is_written(self):
        for tree in random_trees(1, 400):
            text, formula = slow.text_of(tree), slow.made_of(tree)
            with self.subTest(text):
                self.assertEqual(text, str(formula))
                for other in (Formula.read(text), Formula.read(text=text)):
                    self.assertIs(Formula, other.__class__)
                    self.assertEqual((text, tree), (str(other), slow.tree_of(other)))
                    self.assertEqual(formula, other)

    def test_eight_operations_deep_to_each_side(self):
        for sign, action in SIGNED:
            left = right = A
            for _ in range(8):
                left, right = action(left, B), action(B, right)
            for formula in (left, right):
                self.assertEqual(8, len(formula))
                self.assertEqual(formula, Formula.read(str(formula)))
                for text in (f"({formula} {sign} a)", f"(a {sign} {formula})"):
                    assert_error(self, InvalidText, "given", text, lambda: Formula.read(text))

    def test_anything_else_is_invalid(self):
        near = [
            "(a*b)", "( a * b)", "(a * b )", "(a  * b)", "(a *  b)", " (a * b)", "(a * b) ", "(a * b)\n", "(a\n* b)",
            "a * b", "(a * b", "a * b)", "((a * b)", "(a * b))", "((a * b))", "(a)", "((a))", "()", "(", ")", ")(",
            "( * )", "(a * )", "( * b)", "(a b)", "(a * b * c)", "(a / b)", "(a > b)", "(a >>> b)", "(a ** b)",
            "(a + b)", "(a & b)", "(a // b", "(A * b)", "(a * B)", "(a * 1)", "(a * abcdefghi)", "(a * b)(a * b)",
            "(a * b) * c", "((a * b) * c", "(a * (b * c)", "a b", "a,b", "[a * b]", "(a, b)", "(a * b)a", "a(a * b)",
            "((a * b)* c)", "((a * b) *c)", "(a *(b * c))", "(a* (b * c))", "(a *b)", "a ", " a", "\n", "a\n", "  ",
            "(a // // b)", "(a >> b) >>", "(* a b)", "(a b *)", "(( a * b) * c)", "((a * b ) * c)", "(a % b)", "*",
        ]
        near = near + [value for value in ODD_VALUES if value != "a"]
        near = near + [A, A * B, ("(a * b)",), ["a"], {"a": 1}, b"(a * b)", Formula]
        for text in near:
            with self.subTest(text):
                assert_error(self, InvalidText, "given", text, lambda: Formula.read(text))
                assert_error(self, InvalidText, "given", text, lambda: Formula.read(text=text))

    def test_a_changed_character_is_never_overlooked(self):
        text = str(PLAIN)
        for at in range(len(text)):
            for sign in " ()*/>abc19-":
                for other in (text[:at] + sign + text[at + 1:], text[:at] + sign + text[at:]):
                    with self.subTest(other):
                        try:
                            self.assertEqual(other, str(Formula.read(other)))
                        except InvalidText as error:
                            self.assertIs(other, error.given)
            shorter = text[:at] + text[at + 1:]
            assert_error(self, InvalidText, "given", shorter, lambda: Formula.read(shorter))

    def test_thousands_of_parentheses(self):
        texts = ["(" * 4000, ")" * 4000, "()" * 2000, ")(" * 2000, "(" * 1999 + "a" + ")" * 1999, "( " * 2000,
                 "(a" * 2000, "(a * " * 600 + "a" + ")" * 600, "(" * 600 + "a" + " * a)" * 600, "a)" * 2000,
                 "(a * b)" * 500, " * ".join(["(a * b)"] * 350), " " * 4000, "a " * 2000, "a" * 4000,
                 "(" * 9 + "a" + " * b)" * 9, "(a * b" + ")" * 3000, "(" * 3000 + "a * b)"]
        for text in texts:
            with self.subTest(text[:20]):
                assert_error(self, InvalidText, "given", text, lambda: Formula.read(text))


class PartsTest(unittest.TestCase):
    def test_written_out(self):
        self.assertEqual(
            ["a", "b", "c", "(a * b)", "((a * b) // c)", "(((a * b) // c) >> (a * b))"],
            [str(part) for part in PLAIN.parts])
        self.assertEqual(("a", "b", "c"), PLAIN.letters)
        self.assertEqual(4, len(PLAIN))

    def test_parts_letters_and_number_of_operations(self):
        for tree in random_trees(2, 400):
            formula = slow.made_of(tree)
            expected = sorted(slow.parts_of(tree), key=lambda part: (slow.operations(part), slow.text_of(part)))
            with self.subTest(str(formula)):
                self.assertIs(tuple, formula.parts.__class__)
                self.assertEqual(tuple(expected), tuple(slow.tree_of(part) for part in formula.parts))
                self.assertEqual(tuple(slow.letters_of([tree])), formula.letters)
                self.assertEqual(slow.operations(tree), len(formula))
                self.assertTrue(formula)

    def test_contains_its_parts_alone(self):
        for tree in random_trees(3, 60):
            formula = slow.made_of(tree)
            for other in list(random_trees(4, 60)) + sorted(slow.parts_of(tree), key=str):
                self.assertIs(other in slow.parts_of(tree), slow.made_of(other) in formula)
        self.assertIs(True, PLAIN in PLAIN)
        self.assertIs(False, B * A in PLAIN)

    def test_contains_no_other_values(self):
        for value in NO_FORMULAS + ("(a * b)", "a", "", PLAIN.parts, EQUAL_TO_ALL):
            for formula in (A, A * B, PLAIN):
                with self.subTest(value):
                    self.assertIs(False, value in formula)


class PutTest(unittest.TestCase):
    def test_written_out(self):
        for text, name, other, expected in (
            ("a", "a", "b", "b"), ("a", "b", "c", "a"), ("a", "a", "(a * a)", "(a * a)"),
            ("(a * b)", "a", "(b // a)", "((b // a) * b)"), ("(a * b)", "b", "(b // a)", "(a * (b // a))"),
            ("(a >> (b * a))", "a", "(a >> c)", "((a >> c) >> (b * (a >> c)))"),
            ("(ab * a)", "a", "c", "(ab * c)"), ("(a * b)", "ab", "c", "(a * b)"),
        ):
            formula, other = Formula.read(text), Formula.read(other)
            with self.subTest(text, name=name):
                self.assertEqual(expected, str(formula.put(name, other)))
                self.assertEqual(expected, str(formula.put(formula=other, name=name)))
                self.assertEqual(text, str(formula))

    def test_each_letter_is_replaced_at_once(self):
        def put(tree, name, other):
            if isinstance(tree, str):
                return other if tree == name else tree
            return tree[0], put(tree[1], name, other), put(tree[2], name, other)

        trees = list(random_trees(5, 300))
        for tree, other in zip(trees, trees[1:] + trees[:1]):
            for name in ("a", "b", "x1"):
                expected = put(tree, name, other)
                formula, inner = slow.made_of(tree), slow.made_of(other)
                with self.subTest(str(formula), name=name, other=str(inner)):
                    if slow.operations(expected) > 8:
                        assert_error(self, TooMany, "limit", 8, lambda: formula.put(name, inner))
                    else:
                        self.assertEqual(expected, slow.tree_of(formula.put(name, inner)))
                    self.assertEqual((tree, other), (slow.tree_of(formula), slow.tree_of(inner)))

    def test_at_most_eight_operations(self):
        square = A * A
        self.assertEqual(7, len(square.put("a", chain(3))))
        assert_error(self, TooMany, "limit", 8, lambda: square.put("a", chain(4)))
        self.assertEqual(8, len((A * B).put("a", chain(7))))
        assert_error(self, TooMany, "limit", 8, lambda: (A * B).put("a", chain(8)))
        self.assertEqual(chain(8), chain(8).put("c", chain(8)))
        self.assertEqual(chain(8), A.put("a", chain(8)))

    def test_wrong_arguments_in_order(self):
        for formula in (A, PLAIN, chain(8)):
            assert_errors_in_order(self, formula.put, {"name": "d", "formula": chain(8)}, {
                "name": given(InvalidName, NO_NAMES), "formula": WRONG_FORMULA})
            assert_error(self, NotAFormula, "given", 1, lambda: formula.put("a", 1))


class EqualityTest(unittest.TestCase):
    def test_equal_if_the_texts_are(self):
        trees = sorted(set(random_trees(6, 80)), key=str)
        for one in trees:
            for other in trees:
                self.assertIs(one == other, slow.made_of(one) == slow.made_of(other))
                self.assertIs(one != other, slow.made_of(one) != slow.made_of(other))

    def test_never_equal_to_a_value_of_another_class(self):
        for formula in (A, A * B, PLAIN):
            for value in NO_FORMULAS + (str(formula), formula.parts, ("*", A, B), formula.letters):
                with self.subTest(str(formula), value=value):
                    self.assertIs(False, formula == value)
                    self.assertIs(False, value == formula)
                    self.assertIs(True, formula != value)
                    self.assertIs(True, value != formula)

    def test_not_even_to_one_that_says_so(self):
        for formula in (A, A * B):
            self.assertIs(False, formula == EQUAL_TO_ALL)
            self.assertIs(True, formula != EQUAL_TO_ALL)
        assert_error(self, InvalidName, "given", EQUAL_TO_ALL, lambda: letter(EQUAL_TO_ALL))
        assert_error(self, InvalidText, "given", EQUAL_TO_ALL, lambda: Formula.read(EQUAL_TO_ALL))

    def test_never_changes(self):
        formula = A * B
        for name in ("sign", "name", "left", "right", "letters", "parts"):
            with self.subTest(name), self.assertRaises(AttributeError):
                setattr(formula, name, None)
        self.assertEqual(("(a * b)", A, B), (str(formula), formula.left, formula.right))


class PlaceTest(unittest.TestCase):
    def test_everything_stands_in_its_class_and_file(self):
        self.assertEqual(["thirdback.formulas"] * 2, [Formula.__module__, letter.__module__])
        for name in ("read", "sign", "name", "left", "right", "letters", "parts", "put", "__mul__", "__floordiv__",
                     "__rshift__", "__str__", "__len__", "__eq__", "__contains__", "__bool__"):
            self.assertIn(name, vars(Formula))

    def test_example_of_the_document(self):
        f = (A * B) // B
        self.assertEqual(
            ["((a * b) // b)", 2, ("a", "b"), 4, "b", "(a * b)", True, False, True],
            [str(f), len(f), f.letters, len(f.parts), str(f.parts[1]), str(f.parts[2]), A * B in f, B >> A in f,
             f.put("a", B * C) == Formula.read("(((b * c) * b) // b)")])


if __name__ == "__main__":
    unittest.main()
