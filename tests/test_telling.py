"""What kept formulas tell: recipes, twins and single rules in thirdback.facts (points 2 to 5 and 11)."""

import itertools
import random
import unittest

import slow
from common import (
    A, B, C, KINDS, NO_BEGINNINGS, WRONG_FACTS, WRONG_FORMULA, WRONG_FORMULAS, WRONG_KINDS, assert_error,
    assert_errors_in_order, assert_shown, given)
from thirdback.beginnings import Beginning
from thirdback.errors import InvalidFacts, InvalidFormulas, NotAFormula, NotABeginning, NotWhole, TooMany
from thirdback.facts import recipe, tells, tells_here, told, twins
from thirdback.formulas import letter
from thirdback.kinds import Kind

PLAIN = Kind("plain")
THIRD = Beginning(PLAIN, 3, ((0, 0, 0), (0, 1, 2), (0, 2, 1), (1, 0, 1), (1, 1, 0), (1, 2, 2), (2, 0, 2), (2, 1, 1),
                             (2, 2, 0)))


def made_all(trees):
    """The program's formulas."""
    return tuple([slow.made_of(tree) for tree in trees])


def random_kept(source, wanted, names):
    """Kept formulas that often tell the wanted one: some of its parts, mixed with others."""
    pool = [part for part in sorted(slow.parts_of(wanted), key=str) if part != wanted] + list(names)
    kept = []
    for _ in range(source.randint(0, 4)):
        tree = source.choice(pool)
        if kept and source.random() < 0.6:
            sides = [tree, source.choice(kept)]
            source.shuffle(sides)
            tree = (source.choice(slow.SIGNS), *sides)
        if slow.operations(tree) <= 8:
            kept.append(tree)
    return tuple(kept)


def questions(seed, count):
    """For each kind so many questions: the kind, facts, kept formulas and a wanted one as trees."""
    source = random.Random(seed)
    names = ("a", "b", "c")
    for kind in KINDS:
        for _ in range(count):
            facts, wanted, _ = slow.random_question(source)
            yield kind, facts, random_kept(source, wanted, names), wanted


def letters(facts, kept, wanted):
    """The names of all letters of a question."""
    return slow.letters_of([side for fact in facts for side in fact] + list(kept) + [wanted])


class TellsTest(unittest.TestCase):
    def test_as_in_a_plain_closed_table(self):
        found = {}
        for kind, facts, kept, wanted in questions(30, 150):
            expected = slow.got(kind, facts, kept, wanted)
            passed = (kind, slow.made_facts(facts), made_all(kept), slow.made_of(wanted))
            with self.subTest(str(kind), facts=facts, kept=kept, wanted=wanted):
                self.assertIs(expected, tells(*passed))
                self.assertIs(expected, tells(wanted=passed[3], kept=passed[2], facts=passed[1], kind=kind))
            found.setdefault(str(kind), []).append(expected)
        for results in found.values():
            self.assertTrue(20 < results.count(True) < 130)

    def test_what_is_told_is_so_in_whole_rules(self):
        seen = 0
        for kind, facts, kept, wanted in questions(31, 40):
            passed = (kind, slow.made_facts(facts), made_all(kept), slow.made_of(wanted))
            if not tells(*passed):
                continue
            for size, triples in slow.rules_of(kind, 3):
                held = {}
                for contents in slow.fitting_contents((size, triples), facts, letters(facts, kept, wanted)):
                    seen += 1
                    key = tuple(slow.value_in(triples, tree, contents) for tree in kept)
                    value = slow.value_in(triples, wanted, contents)
                    self.assertEqual(value, held.setdefault(key, value))
        self.assertGreater(seen, 1000)

    def test_written_out(self):
        one, other = A * B, B * A
        for kind in KINDS:
            self.assertIs(True, tells(kind, (), (A, B), one))
            self.assertIs(True, tells(kind, (), (A, one), B))
            self.assertIs(True, tells(kind, (), (B, one), A))
            self.assertIs(True, tells(kind, (), (one, other, A), B))
            self.assertIs(True, tells(kind, (), (one,), one))
            self.assertIs(True, tells(kind, ((A, C),), (C,), A))
            self.assertIs(True, tells(kind, ((one, C),), (A, C), B))
            self.assertIs(False, tells(kind, (), (one,), A))
            self.assertIs(False, tells(kind, (), (one, other), A))
            self.assertIs(False, tells(kind, ((A, C),), (A, C), B))
            self.assertIs(kind.calm, tells(kind, ((one, A),), (B,), A))
            self.assertIs(kind.turns in ("sides", "all"), tells(kind, (), (one,), other))

    def test_one_thing_at_two_places_is_not_got_from_the_third(self):
        for kind in KINDS:
            self.assertIs(kind.calm, tells(kind, (), (A * A,), A))
            self.assertIs(True, tells(kind, (), (A,), A * A))
            self.assertIs(True, tells(kind, ((B * A, B),), (B,), A))
            self.assertIs(kind.calm, tells(kind, ((B * A, B),), (A,), B))

    def test_nothing_is_got_from_no_formulas(self):
        for kind in KINDS:
            for facts in ((), ((A, B),), ((A * A, A), (A, B * B))):
                for wanted in (A, A * B, (A * B) // B):
                    self.assertIs(False, tells(kind, facts, (), wanted))
                    self.assertEqual((), told(kind, facts, (), (wanted, A)))
                    self.assertIsNone(recipe(kind, facts, (), wanted))
                    self.assertIsNotNone(twins(kind, facts, (), wanted))

    def test_wrong_arguments_in_order(self):
        for function in (tells, recipe, twins):
            assert_errors_in_order(
                self, function, {"kind": PLAIN, "facts": ((A, B),) * 4, "kept": (A, B, C) * 2, "wanted": B},
                {"kind": WRONG_KINDS, "facts": WRONG_FACTS, "kept": WRONG_FORMULAS, "wanted": WRONG_FORMULA})


class ToldTest(unittest.TestCase):
    def test_those_of_the_asked_that_are_told(self):
        source = random.Random(32)
        for kind, facts, kept, wanted in questions(33, 30):
            asked = [wanted] + sorted(slow.parts_of(wanted), key=str)[:3] + [source.choice("abc"), wanted]
            source.shuffle(asked)
            expected = [tree for tree in asked if slow.got(kind, facts, kept, tree)]
            passed = (kind, slow.made_facts(facts), made_all(kept), made_all(asked))
            with self.subTest(str(kind), facts=facts, kept=kept, asked=asked):
                found = told(*passed)
                self.assertIs(tuple, found.__class__)
                self.assertEqual(made_all(expected), found)
                self.assertEqual(found, told(asked=passed[3], facts=passed[1], kept=passed[2], kind=kind))

    def test_few_and_many_asked(self):
        for kind in KINDS:
            self.assertEqual((), told(kind, (), (A, B), ()))
            self.assertEqual((A, B, A, A * B, B * A), told(kind, (), (A, B), (A, B, A, A * B, B * A, C)))

    def test_wrong_arguments_in_order(self):
        assert_errors_in_order(
            self, told, {"kind": PLAIN, "facts": ((A, B),) * 4, "kept": (A, B, C) * 2, "asked": (A, B, C) * 2},
            {"kind": WRONG_KINDS, "facts": WRONG_FACTS, "kept": WRONG_FORMULAS, "asked": WRONG_FORMULAS})


class RecipeTest(unittest.TestCase):
    def check(self, kept, found, most=300):
        """That it is a recipe."""
        self.assertIs(tuple, found.__class__)
        steps, index = found
        self.assertIs(tuple, steps.__class__)
        self.assertLessEqual(len(steps), most)
        for number, step in enumerate(steps, start=len(kept)):
            self.assertIs(tuple, step.__class__)
            sign, one, other = step
            self.assertIn(sign, slow.SIGNS)
            self.assertTrue(0 <= one < number and 0 <= other < number)
        self.assertTrue(0 <= index < len(kept) + len(steps))

    def work_out(self, triples, kept, found, contents):
        """The value of the item that the recipe names."""
        items = [slow.value_in(triples, tree, contents) for tree in kept]
        for sign, one, other in found[0]:
            items.append(slow.value_in(triples, (sign, "a", "b"), {"a": items[one], "b": items[other]}))
        return items[found[1]]

    def test_made_in_whole_rules(self):
        made = 0
        for kind, facts, kept, wanted in questions(34, 60):
            passed = (kind, slow.made_facts(facts), made_all(kept), slow.made_of(wanted))
            with self.subTest(str(kind), facts=facts, kept=kept, wanted=wanted):
                found = recipe(*passed)
                self.assertIs(slow.got(kind, facts, kept, wanted), found is not None)
                self.assertEqual(found, recipe(wanted=passed[3], kept=passed[2], facts=passed[1], kind=kind))
                if found is None:
                    continue
                self.check(kept, found)
                for rule in slow.rules_of(kind, 2):
                    for contents in slow.fitting_contents(rule, facts, letters(facts, kept, wanted)):
                        made += len(found[0]) > 0
                        self.assertEqual(slow.value_in(rule[1], wanted, contents),
                                         self.work_out(rule[1], kept, found, contents))
        self.assertGreater(made, 1000)

    def test_written_out(self):
        for kind in KINDS:
            self.assertEqual(((), 0), recipe(kind, (), (A,), A))
            self.assertEqual(((), 1), recipe(kind, (), (A, B), B))
            self.assertEqual(((), 0), recipe(kind, ((A, B),), (A,), B))
            self.assertEqual(((), 0), recipe(kind, (), (A, C), (A * B) // B))
        self.assertEqual(((("*", 0, 1),), 2), recipe(PLAIN, (), (A, B), A * B))
        self.assertEqual(((("//", 1, 0),), 2), recipe(PLAIN, (), (B, A * B), A))
        self.assertEqual(((("//", 0, 1),), 2), recipe(PLAIN, (), (B, A), B // A))
        self.assertEqual(((("//", 0, 1), (">>", 2, 1)), 3), recipe(PLAIN, (), (A * (A * B), A * B), B))
        self.assertEqual(((("*", 0, 0),), 1), recipe(PLAIN, (), (A,), A * A))

    def test_no_idle_steps(self):
        many = 0
        for kind, facts, kept, wanted in questions(37, 60):
            found = recipe(kind, slow.made_facts(facts), made_all(kept), slow.made_of(wanted))
            if found is not None:
                steps, index = found
                used = {item for _, one, other in steps for item in (one, other)} | {index}
                self.assertLessEqual(set(range(len(kept), len(kept) + len(steps))), used)
                many += len(steps) > 1
        self.assertGreater(many, 50)
        self.assertEqual(((("//", 1, 0),), 3), recipe(PLAIN, (), (A, (C * B) * A, B), C * B))

    def test_long_ways(self):
        for kind in KINDS:
            facts, kept, wanted = self.long_question()
            self.assertTrue(all(slow.operations(tree) <= 8 for tree in kept + (wanted,)))
            found = recipe(kind, slow.made_facts(facts), made_all(kept), slow.made_of(wanted))
            self.check(kept, found)
            if kind in (PLAIN, Kind("plain", calm=True)):
                self.assertGreater(len(found[0]), 90)
            checked = 0
            for size, triples in slow.rules_of(kind, 6)[-6:]:
                for things in itertools.islice(itertools.product(range(size), repeat=6), 0, 5000, 97):
                    contents = self.with_facts(triples, facts, dict(zip("abcdef", things)))
                    self.assertEqual(slow.value_in(triples, wanted, contents),
                                     self.work_out(triples, kept, found, contents))
                    checked += 1
            self.assertGreater(checked, 0)

    def long_question(self):
        """Four facts and six kept formulas, one letter after the other hidden under eight operations."""
        kept = ("a",) + tuple(self.hidden(new, old) for old, new in zip("abcde", "bcdef"))
        facts = tuple((self.hidden(old, "b"), self.hidden(new, old)) for old, new in zip("fghi", "ghij"))
        return facts, kept, self.hidden("j", "i")

    def hidden(self, tree, other):
        """The letter under eight operations with the other one."""
        for count in range(8):
            tree = ("*", tree, other) if count % 2 else (">>", other, tree)
        return tree

    def with_facts(self, triples, facts, contents):
        """The contents, and of the letters g to j those with which the facts hold."""
        size = max(triples)[0] + 1
        for name, fact in zip("ghij", facts):
            for thing in range(size):
                contents[name] = thing
                if slow.value_in(triples, fact[0], contents) == slow.value_in(triples, fact[1], contents):
                    break
        return contents


class TwinsTest(unittest.TestCase):
    def test_none_if_told_and_else_shown(self):
        shown = 0
        for kind, facts, kept, wanted in questions(35, 100):
            passed = (kind, slow.made_facts(facts), made_all(kept), slow.made_of(wanted))
            with self.subTest(str(kind), facts=facts, kept=kept, wanted=wanted):
                found = twins(*passed)
                self.assertIs(slow.got(kind, facts, kept, wanted), found is None)
                self.assertEqual(found, twins(wanted=passed[3], kept=passed[2], facts=passed[1], kind=kind))
                if found is not None:
                    self.check(kind, facts, kept, wanted, found)
                    shown += 1
        self.assertGreater(shown, 400)

    def check(self, kind, facts, kept, wanted, found):
        """That the beginning and the two contents show that the wanted formula is not told."""
        self.assertIs(tuple, found.__class__)
        beginning, contents, others = found
        triples = frozenset(beginning.triples)
        sides = [side for fact in facts for side in fact]
        both = []
        for each in (contents, others):
            assert_shown(self, kind, beginning, each, letters(facts, kept, wanted))
            values = [slow.value_in(triples, tree, dict(each)) for tree in sides]
            self.assertNotIn(None, values)
            self.assertEqual(values[::2], values[1::2])
            both.append([slow.value_in(triples, tree, dict(each)) for tree in kept + (wanted,)])
        self.assertNotIn(None, both[0] + both[1])
        self.assertEqual(both[0][:-1], both[1][:-1])
        self.assertNotEqual(both[0][-1], both[1][-1])

    def test_greatest_questions(self):
        names = [f"{first}{number}" for first in "abcdefghijklmno" for number in range(9)]
        trees = []
        for at in range(15):
            tree = names[9 * at]
            for name in names[9 * at + 1:9 * at + 9]:
                tree = ("*", tree, name)
            trees.append(tree)
        facts = tuple(zip(trees[:8:2], trees[1:8:2]))
        kept, wanted = tuple(trees[8:14]), trees[14]
        for kind in KINDS:
            passed = (kind, slow.made_facts(facts), made_all(kept), slow.made_of(wanted))
            self.assertIs(False, tells(*passed))
            self.check(kind, facts, kept, wanted, twins(*passed))
            self.assertGreater(twins(*passed)[0].size, 400)


class TellsHereTest(unittest.TestCase):
    def plainly(self, rule, facts, kept, wanted):
        """The same in the words of the document."""
        found = slow.fitting_contents(rule, facts, letters(facts, kept, wanted))
        values = [(tuple(slow.value_in(rule[1], tree, contents) for tree in kept),
                   slow.value_in(rule[1], wanted, contents)) for contents in found]
        return len(set(values)) == len({key for key, _ in values})

    def test_with_all_contents_of_whole_rules(self):
        found = []
        for kind, facts, kept, wanted in questions(36, 8):
            passed = (slow.made_facts(facts), made_all(kept), slow.made_of(wanted))
            for size, triples in slow.rules_of(kind, 5):
                beginning = Beginning(kind, size, tuple(triples))
                expected = self.plainly((size, triples), facts, kept, wanted)
                with self.subTest(str(kind), size=size, facts=facts, kept=kept, wanted=wanted):
                    self.assertIs(expected, tells_here(beginning, *passed))
                    self.assertIs(expected, tells_here(
                        wanted=passed[2], kept=passed[1], facts=passed[0], beginning=beginning))
                    self.assertTrue(expected or not tells(kind, *passed))
                found.append(expected)
        self.assertTrue(100 < found.count(True) < len(found) - 100)

    def test_more_is_told_in_one_rule_than_in_all(self):
        kept = (A * B, A * (B * A))
        self.assertEqual([True, False], [tells_here(THIRD, (), kept, A), tells(PLAIN, (), kept, A)])
        one = Beginning(PLAIN, 1, ((0, 0, 0),))
        for wanted in (A, A * B):
            self.assertIs(True, tells_here(one, (), (), wanted))
            self.assertIs(False, tells_here(THIRD, (), (), wanted))
        self.assertIs(True, tells_here(THIRD, ((A, B), (A * A, B)), (), B))

    def test_facts_that_never_hold(self):
        rule = Beginning(PLAIN, 3, tuple([(i, j, (1 - i - j) % 3) for i in range(3) for j in range(3)]))
        self.assertIs(True, rule.whole and all(rule(thing, thing) != thing for thing in range(3)))
        self.assertIs(False, tells_here(rule, (), (A,), B))
        self.assertIs(True, tells_here(rule, ((A * A, A),), (A,), B))
        self.assertIs(True, tells_here(rule, ((B, B), (C * C, C)), (), B))

    def test_at_most_4096_trials(self):
        names = [letter(name) for name in "abcdefghijklmn"]
        for size, most in ((2, 12), (4, 6), (8, 4), (3, 7), (5, 5), (16, 3), (64, 2), (17, 2), (65, 1), (600, 1)):
            rule = Beginning(PLAIN, size, tuple([
                (i, j, (i + j) % size) for i in range(size) for j in range(size)]))
            with self.subTest(size, most=most):
                facts, kept, wanted = self.spread(names[:most])
                self.assertIs(False, tells_here(rule, facts, kept, wanted))
                self.assertIs(True, tells_here(rule, facts + ((wanted, wanted * wanted),), kept, wanted))
                for facts, kept, wanted in (self.spread(names[:most + 1]), self.spread(names[most::-1])):
                    assert_error(self, TooMany, "limit", 4096, lambda: tells_here(rule, facts, kept, wanted))

    def spread(self, names):
        """A fact with the first letter, kept formulas with all but the last, which is the wanted one."""
        others = names[:-1]
        kept = tuple([self.sum_of(others[at:at + 4]) for at in range(0, len(others), 4)])
        return ((names[0], names[0]),), kept, names[-1]

    def sum_of(self, names):
        """The letters mixed one after the other."""
        formula = names[0]
        for name in names[1:]:
            formula = formula * name
        return formula

    def test_each_letter_counts_once(self):
        one = Beginning(PLAIN, 1, ((0, 0, 0),))
        two = Beginning(PLAIN, 2, ((0, 0, 0), (0, 1, 1), (1, 0, 1), (1, 1, 0)))
        names = [letter(f"x{number}") for number in range(54)]
        kept = tuple([self.sum_of(names[at:at + 9]) for at in range(0, 54, 9)])
        self.assertIs(True, tells_here(one, (), kept, A))
        self.assertIs(True, tells_here(two, ((self.sum_of(names[:9]), B),) * 4, kept[:1] * 6, names[0] // names[0]))
        assert_error(self, TooMany, "limit", 4096, lambda: tells_here(two, (), kept, A))

    def test_wrong_arguments_in_order(self):
        open_rules = [Beginning(kind, size) for kind in KINDS for size in (0, 2, 600)]
        open_rules += [Beginning(PLAIN, 3, THIRD.triples[:8]), Beginning(Kind("plain", calm=True), 3)]
        assert_errors_in_order(
            self, tells_here, {"beginning": THIRD, "facts": ((A, B),) * 4, "kept": (A, B, C) * 2, "wanted": B},
            {"beginning": given(NotABeginning, NO_BEGINNINGS) + given(NotWhole, open_rules),
             "facts": WRONG_FACTS, "kept": WRONG_FORMULAS, "wanted": WRONG_FORMULA})

    def test_too_many_trials_are_found_last(self):
        names = tuple([letter(name) for name in "abcdefghijkl"])
        kept, wanted = (self.sum_of(names[:6]), self.sum_of(names[6:])), A
        assert_error(self, TooMany, "limit", 4096, lambda: tells_here(THIRD, (), kept, wanted))
        assert_error(self, InvalidFacts, "index", 0, lambda: tells_here(THIRD, (A,), kept, wanted))
        assert_error(self, InvalidFormulas, "index", 2, lambda: tells_here(THIRD, (), kept + (1,), wanted))
        assert_error(self, NotAFormula, "given", "a", lambda: tells_here(THIRD, (), kept, "a"))


class UnchangedTest(unittest.TestCase):
    def test_no_call_changes_what_it_is_passed(self):
        facts, kept, asked = ((A * B, B * C), (A, A * A)), (A * C, B >> C), (A, A // C)
        texts = [(str(one), str(other)) for one, other in facts], [str(formula) for formula in kept + asked]
        rule = THIRD | THIRD
        for kind in KINDS:
            told(kind, facts, kept, asked)
            for function in (tells, recipe, twins):
                function(kind, facts, kept, asked[1])
        tells_here(rule, facts, kept, asked[1])
        self.assertEqual(texts, ([(str(one), str(other)) for one, other in facts],
                                 [str(formula) for formula in kept + asked]))
        self.assertEqual((PLAIN, 3, THIRD.triples), (rule.kind, rule.size, rule.triples))


class ExampleTest(unittest.TestCase):
    def test_example_of_the_document(self):
        found = told(PLAIN, (), ((A * B) * C, C), (A, A * B, B * C))
        self.assertEqual([True, False, 1, "(a * b)"], [
            tells(PLAIN, (), (A, A * B), B), tells(PLAIN, (), (A * B, B * A), A), len(found), str(found[0])])
        kept = (A * B, A * (B * A))
        self.assertEqual([True, 2, True, False], [
            THIRD.whole, THIRD(1, 2), tells_here(THIRD, (), kept, A), tells(THIRD.kind, (), kept, A)])


if __name__ == "__main__":
    unittest.main()
