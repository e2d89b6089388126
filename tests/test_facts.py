"""What is alike and what is possible under facts: thirdback.facts (points 2 to 5 and 10)."""

import random
import unittest

import slow
from common import (
    A, B, C, KINDS, WRONG_FACTS, WRONG_FORMULA, WRONG_FORMULAS, WRONG_KINDS, assert_errors_in_order, assert_shown)
from thirdback import facts as module
from thirdback.facts import apart, equal_parts, follows, possible
from thirdback.formulas import Formula, letter
from thirdback.kinds import Kind

PLAIN = Kind("plain")


def questions(seed, count, most_facts=2):
    """For each kind so many questions: the kind, facts and two formulas as trees."""
    source = random.Random(seed)
    for kind in KINDS:
        for _ in range(count):
            facts, one, other = slow.random_question(source, most_facts)
            yield kind, facts, one, other


def eight(first, *others):
    """A formula with eight operations of these letters."""
    formula = first
    while len(formula) < 8:
        formula = (formula * others[len(formula) % len(others)]) if len(formula) % 2 else (
            others[len(formula) % len(others)] >> formula)
    return formula


class FollowsTest(unittest.TestCase):
    def test_as_in_a_plain_closed_table(self):
        found = {}
        for kind, facts, one, other in questions(20, 220):
            expected = slow.alike(kind, facts, one, other)
            passed = (kind, slow.made_facts(facts), slow.made_of(one), slow.made_of(other))
            with self.subTest(str(kind), facts=facts, one=one, other=other):
                self.assertIs(expected, follows(*passed))
                self.assertIs(expected, follows(other=passed[3], one=passed[2], facts=passed[1], kind=kind))
                self.assertIs(expected, follows(kind, passed[1], passed[3], passed[2]))
            found.setdefault(str(kind), []).append(expected)
        for results in found.values():
            self.assertTrue(20 < results.count(True) < 200)

    def test_what_follows_holds_in_whole_rules(self):
        held = 0
        for kind, facts, one, other in questions(21, 60):
            if one == other or not follows(kind, slow.made_facts(facts), slow.made_of(one), slow.made_of(other)):
                continue
            names = slow.letters_of([one, other] + [side for fact in facts for side in fact])
            for rule in slow.rules_of(kind, 4):
                for contents in slow.fitting_contents(rule, facts, names):
                    held += 1
                    self.assertEqual(
                        slow.value_in(rule[1], one, contents), slow.value_in(rule[1], other, contents))
        self.assertGreater(held, 1000)

    def test_written_out(self):
        for kinds, facts, one, other in (
            ("plain sides front back round all", (), "((a * b) // b)", "a"),
            ("plain sides front back round all", (), "(a >> (a * b))", "b"),
            ("plain sides front back round all", (), "((a // b) * b)", "a"),
            ("plain sides front back round all", (), "(a * (a >> b))", "b"),
            ("plain sides front back round all", (), "(a // (b >> a))", "b"),
            ("plain sides front back round all", (), "((a // b) >> a)", "b"),
            ("sides all", (), "(a * b)", "(b * a)"), ("back all", (), "(a * (a * b))", "b"),
            ("front all", (), "((a * b) * b)", "a"), ("round all", (), "((a * b) * a)", "b"),
            ("round all", (), "(a * (b * a))", "b"), ("round all", (), "(a >> b)", "(b * a)"),
            ("sides all", (), "(a // b)", "(b >> a)"), ("front all", (), "(a // b)", "(a * b)"),
            ("back all", (), "(a >> b)", "(a * b)"), ("", (), "(a * a)", "a"), ("", (), "(a * a)", "(b * b)"),
            ("plain sides front back round all", (("(a * b)", "(a * c)"),), "b", "c"),
            ("plain sides front back round all", (("(b // a)", "(c // a)"),), "b", "c"),
            ("plain sides front back round all", (("a", "b"), ("b", "c"),), "(a * c)", "(c * a)"),
            ("plain sides front back round all", (("(a * b)", "c"), ("(a * d)", "c")), "(b // a)", "(d // a)"),
            ("sides all", (("(a * b)", "(c * a)"),), "b", "c"), ("sides all", (("(a * b)", "c"),), "(b * a)", "c"),
            ("round all", (("(a * b)", "c"),), "(b * c)", "a"), ("", (("(a * b)", "(c * d)"),), "a", "c"),
        ):
            pairs = tuple([(Formula.read(left), Formula.read(right)) for left, right in facts])
            for turns in slow.LOTS:
                with self.subTest(turns, one=one, other=other):
                    self.assertIs(turns in kinds.split(), follows(
                        Kind(turns), pairs, Formula.read(one), Formula.read(other)))

    def test_calm_kinds(self):
        for turns in slow.LOTS:
            calm = Kind(turns, calm=True)
            self.assertIs(True, follows(calm, (), A * A, A))
            self.assertIs(True, follows(calm, (), (A * A) >> (A // A), A))
            self.assertIs(True, follows(calm, ((A * B, A),), A, B))
            self.assertIs(True, follows(calm, ((A * B, B),), A, B))
            self.assertIs(False, follows(calm, (), A * B, A))
            self.assertIs(False, follows(Kind(turns), ((A * B, A),), A, B))

    def test_greatest_questions(self):
        names = [letter(name) for name in ("d", "e", "f", "g")]
        facts = tuple([(eight(A, B, C), eight(name, C, B)) for name in names])
        for kind in KINDS:
            self.assertIs(True, follows(kind, facts, eight(names[0], A, C), eight(names[3], A, C)))
            self.assertIs(False, follows(kind, facts, eight(A, B, C), eight(B, A, C)))
            assert_shown(self, kind, *apart(kind, facts, eight(A, B, C), eight(B, A, C)), "abcdefg")

    def test_wrong_arguments_in_order(self):
        for function in (follows, apart):
            assert_errors_in_order(
                self, function, {"kind": PLAIN, "facts": ((A, B),) * 4, "one": A * B, "other": B},
                {"kind": WRONG_KINDS, "facts": WRONG_FACTS, "one": WRONG_FORMULA, "other": WRONG_FORMULA})


class ApartTest(unittest.TestCase):
    def test_none_if_alike_and_else_shown(self):
        shown = 0
        for kind, facts, one, other in questions(22, 120):
            passed = (kind, slow.made_facts(facts), slow.made_of(one), slow.made_of(other))
            with self.subTest(str(kind), facts=facts, one=one, other=other):
                found = apart(*passed)
                self.assertIs(slow.alike(kind, facts, one, other), found is None)
                self.assertEqual(found, apart(*passed))
                if found is not None:
                    self.check(kind, facts, one, other, found)
                    shown += 1
        self.assertGreater(shown, 500)

    def check(self, kind, facts, one, other, found):
        """That the beginning and the contents show the two apart."""
        self.assertIs(tuple, found.__class__)
        beginning, contents = found
        sides = [side for fact in facts for side in fact]
        assert_shown(self, kind, beginning, contents, slow.letters_of(sides + [one, other]))
        triples = frozenset(beginning.triples)
        values = [slow.value_in(triples, tree, dict(contents)) for tree in sides + [one, other]]
        self.assertNotIn(None, values)
        self.assertEqual(values[:-2:2], values[1:-2:2])
        self.assertNotEqual(values[-2], values[-1])
        self.assertEqual(values[-1], beginning.value(slow.made_of(other), contents))


class EqualPartsTest(unittest.TestCase):
    def test_as_in_a_plain_closed_table(self):
        source = random.Random(23)
        later = 0
        for kind in KINDS:
            for _ in range(40):
                facts, one, other = slow.random_question(source)
                trees = [one, other] + [slow.reworked(source, ("a", "b", "c"), one)] * source.randint(0, 1)
                trees += [slow.random_tree(source, ("a", "b"), source.randint(0, 2)) for _ in range(3)]
                trees = [tree for tree in trees if slow.operations(tree) <= 8]
                source.shuffle(trees)
                expected = [min(at for at, first in enumerate(trees) if slow.alike(kind, facts, first, tree))
                            for tree in trees]
                passed = (kind, slow.made_facts(facts), tuple(map(slow.made_of, trees)))
                with self.subTest(str(kind), facts=facts, trees=trees):
                    found = equal_parts(*passed)
                    self.assertIs(tuple, found.__class__)
                    self.assertEqual(tuple(expected), found)
                    self.assertEqual(found, equal_parts(formulas=passed[2], kind=kind, facts=passed[1]))
                later += sum(at != index for index, at in enumerate(expected))
        self.assertGreater(later, 100)

    def test_few_and_many_formulas(self):
        for kind in KINDS:
            self.assertEqual((), equal_parts(kind, (), ()))
            self.assertEqual((), equal_parts(kind, ((A, B),), ()))
            self.assertEqual((0,), equal_parts(kind, (), (A,)))
            self.assertEqual((0, 1, 0, 1, 0, 5), equal_parts(kind, (), (A, B, A, B, A, C)))
            self.assertEqual((0, 0, 0, 0, 4, 0), equal_parts(kind, ((A, B),), (A, B, A, B, C, A)))

    def test_wrong_arguments_in_order(self):
        assert_errors_in_order(
            self, equal_parts, {"kind": PLAIN, "facts": ((A, B),) * 4, "formulas": (A, B, C) * 2},
            {"kind": WRONG_KINDS, "facts": WRONG_FACTS, "formulas": WRONG_FORMULAS})


class PossibleTest(unittest.TestCase):
    def test_as_in_a_plain_closed_table(self):
        found = []
        for kind, facts, one, other in questions(24, 80):
            unlike = ((one, other),) + (((one, "b"), (("*", "a", "c"), other)) if len(facts) == 1 else ())
            same = slow.classes(kind, facts, [side for pair in unlike for side in pair])
            expected = all(same[left] != same[right] for left, right in unlike)
            passed = (kind, slow.made_facts(facts), slow.made_facts(unlike))
            with self.subTest(str(kind), facts=facts, unlike=unlike):
                self.assertIs(expected, possible(*passed))
                self.assertIs(expected, possible(unlike=passed[2], facts=passed[1], kind=kind))
            found.append(expected)
        self.assertTrue(100 < found.count(True) < len(found) - 100)

    def test_what_is_not_possible_is_in_no_whole_rule(self):
        for kind, facts, one, other in questions(25, 40):
            unlike = ((one, other), ("a", "b"))
            if possible(kind, slow.made_facts(facts), slow.made_facts(unlike)):
                continue
            names = sorted({"a", "b"} | set(slow.letters_of([side for pair in facts + unlike for side in pair])))
            for rule in slow.rules_of(kind, 3):
                for contents in slow.fitting_contents(rule, facts, names):
                    self.assertTrue(any(slow.value_in(rule[1], left, contents)
                                        == slow.value_in(rule[1], right, contents) for left, right in unlike))

    def test_written_out(self):
        for kind in KINDS:
            self.assertIs(True, possible(kind, (), ()))
            self.assertIs(True, possible(kind, ((A, B), (B, C)), ()))
            self.assertIs(True, possible(kind, (), ((A, B), (B, C), (A, C), (A * B, C))))
            self.assertIs(False, possible(kind, (), ((A, A),)))
            self.assertIs(False, possible(kind, (), ((A, B), (A, A))))
            self.assertIs(False, possible(kind, ((A, B), (B, C)), ((A, C),)))
            self.assertIs(not kind.calm, possible(kind, (), ((A, A * A),)))
            self.assertIs((0, 2, 1) not in kind.lot, possible(kind, (), ((A, B), (A * (A * B), B))))

    def test_wrong_arguments_in_order(self):
        assert_errors_in_order(
            self, possible, {"kind": PLAIN, "facts": ((A, B),) * 4, "unlike": ((A, C),) * 4},
            {"kind": WRONG_KINDS, "facts": WRONG_FACTS, "unlike": WRONG_FACTS})


class PlaceTest(unittest.TestCase):
    def test_everything_stands_in_its_file(self):
        for name in ("follows", "equal_parts", "possible", "apart", "tells", "told", "recipe", "twins", "tells_here"):
            self.assertEqual("thirdback.facts", getattr(module, name).__module__)

    def test_example_of_the_document(self):
        self.assertEqual([True, False, True, True], [
            follows(PLAIN, (), (A * B) // B, A), follows(PLAIN, (), A * B, B * A),
            follows(Kind("back"), (), A * (A * B), B), follows(PLAIN, ((A * B, A * C),), B, C)])
        self.assertEqual([(0, 0, 2, 2), False], [
            equal_parts(Kind("sides"), (), (A * B, B * A, A >> B, B // A)),
            possible(Kind("sides"), (), ((A * B, A), (A * B, B * A)))])


if __name__ == "__main__":
    unittest.main()
