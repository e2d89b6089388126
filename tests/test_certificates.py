"""The certificates of thirdback.certificates (points 2 to 5 and 18)."""

import collections
import random
import unittest

import slow
import slow_chains
import slow_checker
import slow_scripts
from common import (
    A, B, C, EQUAL_TO_ALL, KINDS, MANY_DIGITS, NO_FORMULAS, ODD_VALUES, WRONG_FACTS, WRONG_FORMULA, WRONG_FORMULAS,
    WRONG_KINDS, assert_errors_in_order, given)
from test_telling import made_all, random_kept
from thirdback import certificates as module
from thirdback.certificates import certify_alike, certify_chains, certify_index, certify_told
from thirdback.chains import Cell, first_break, harmed
from thirdback.checker import accepts
from thirdback.errors import InvalidIndex, InvalidNumber, NotACell, NotAScript
from thirdback.facts import follows, tells
from thirdback.kinds import Kind
from thirdback.scripts import Script, reachable

PLAIN = Kind("plain")
SCRIPT = Script(PLAIN, ("a", "b", "s"), ("s = a * b", "same a b 3", "a = b", "a = s // b"))
CLOSED = Cell(PLAIN, ("p",), ("x",), ("q",), (("p", "x", "q"),), stored=("x", "q"), wanted=("x",), begin=("p",),
              end=("q",))


def texts_of(facts):
    """The texts of facts that are trees."""
    return tuple([(slow.text_of(one), slow.text_of(other)) for one, other in facts])


class CertificateTest(unittest.TestCase):
    def assert_accepted(self, claim, certificate):
        """That the claim is accepted, by the slow checker, too."""
        self.assertIs(True, accepts(claim, certificate))
        self.assertIs(True, accepts(certificate=certificate, claim=claim))
        self.assertTrue(slow_checker.judge(claim, certificate))
        self.assertEqual((tuple, tuple), (claim.__class__, certificate.__class__))

    def test_alike(self):
        source = random.Random(140)
        words = collections.Counter()
        for kind in KINDS:
            for _ in range(60):
                facts, one, other = slow.random_question(source, 4)
                passed = kind, slow.made_facts(facts), slow.made_of(one), slow.made_of(other)
                with self.subTest(str(kind), facts=facts, one=one, other=other):
                    claim, certificate = certify_alike(*passed)
                    word = "follows" if slow.alike(kind, facts, one, other) else "apart"
                    self.assertIs(word == "follows", follows(*passed))
                    self.assertEqual((word, str(kind), texts_of(facts), slow.text_of(one), slow.text_of(other)), claim)
                    self.assert_accepted(claim, certificate)
                    self.assertEqual((claim, certificate), certify_alike(
                        other=passed[3], one=passed[2], facts=passed[1], kind=kind))
                words[word, str(kind)] += 1
        self.assertTrue(all(words[word, str(kind)] > 5 for word in ("follows", "apart") for kind in KINDS))

    def test_told(self):
        source = random.Random(141)
        words = collections.Counter()
        for kind in KINDS:
            for _ in range(60):
                facts, wanted, _ = slow.random_question(source)
                kept = random_kept(source, wanted, ("a", "b", "c"))
                passed = kind, slow.made_facts(facts), made_all(kept), slow.made_of(wanted)
                with self.subTest(str(kind), facts=facts, kept=kept, wanted=wanted):
                    claim, certificate = certify_told(*passed)
                    word = "tells" if slow.got(kind, facts, kept, wanted) else "open"
                    self.assertIs(word == "tells", tells(*passed))
                    texts = tuple([slow.text_of(tree) for tree in kept])
                    self.assertEqual((word, str(kind), texts_of(facts), texts, slow.text_of(wanted)), claim)
                    self.assert_accepted(claim, certificate)
                    self.assertEqual((claim, certificate), certify_told(
                        wanted=passed[3], kept=passed[2], facts=passed[1], kind=kind))
                words[word, str(kind)] += 1
        self.assertTrue(all(words[word, str(kind)] > 5 for word in ("tells", "open") for kind in KINDS))

    def test_index(self):
        source = random.Random(142)
        words = collections.Counter()
        for kind, boxes, rows in slow_scripts.random_scripts(source, KINDS, 35, most_rows=12):
            script = Script(kind, boxes, rows)
            reached = slow_scripts.reachable(kind, boxes, rows)
            self.assertEqual(reached, reachable(script))
            for row in range(len(rows) + 1):
                with self.subTest(str(script), row=row):
                    claim, certificate = certify_index(script, row)
                    self.assertEqual(("can" if row in reached else "never", str(script), row), claim)
                    self.assert_accepted(claim, certificate)
                    self.assertEqual((claim, certificate), certify_index(row=row, script=script))
                words[claim[0], len(certificate) if claim[0] == "never" else None] += 1
        self.assertTrue({("never", 0), ("never", 1), ("never", 2), ("can", None)} <= set(words))

    def test_chains(self):
        source = random.Random(143)
        words = collections.Counter()
        for kind in KINDS:
            for at in range(14):
                cell = slow_chains.useful_cell(source, kind) if at % 7 else slow_chains.random_cell(source, kind, 2, 3,
                                                                                                    5, 3)
                for number in (0, 1, 2, 3, 9):
                    with self.subTest(cell.row, number=number):
                        claim, certificate = certify_chains(cell, number)
                        self.assert_accepted(claim, certificate)
                        self.assertEqual((claim, certificate), certify_chains(number=number, cell=cell))
                        withstands = not harmed(cell, number)
                        self.assertEqual("withstands" if withstands else "breaks", claim[0])
                        self.assertEqual(cell.row, claim[1])
                        if withstands:
                            self.assertEqual(number, claim[2])
                        else:
                            self.assertTrue(len(claim[3]) <= number)
                            self.assertTrue(slow_chains.untold(cell, claim[2], claim[3]))
                            self.assertEqual(len(first_break(cell)[1]), len(claim[3]))
                    words[claim[0], number] += 1
        self.assertTrue(all(words[word, number] > 3 for word in ("withstands", "breaks") for number in (0, 1, 2)))

    def test_equal_texts_in_their_order(self):
        facts = ((B, A), (A, B), (A * B, B * A), (A, A))
        claim, certificate = certify_told(PLAIN, facts, (C, A, C, A * B, B, A), B >> C)
        self.assertEqual(("tells", "plain", (("b", "a"), ("a", "b"), ("(a * b)", "(b * a)"), ("a", "a")),
                          ("c", "a", "c", "(a * b)", "b", "a"), "(b >> c)"), claim)
        self.assert_accepted(claim, certificate)

    def test_as_long_as_can_be(self):
        source = random.Random(144)
        for kind in KINDS:
            eight = [slow.random_tree(source, "abcdefg", 8) for _ in range(20)]
            facts = tuple(zip(eight[:4], eight[4:8]))
            for passed in ((eight[8], eight[9]), (eight[8], eight[8]), (eight[0], eight[4])):
                self.assert_accepted(*certify_alike(kind, slow.made_facts(facts), *made_all(passed)))
            for kept, wanted in ((eight[8:14], eight[14]), (eight[0:6], eight[6]), (eight[8:14], eight[9])):
                self.assert_accepted(*certify_told(kind, slow.made_facts(facts), made_all(kept), slow.made_of(wanted)))

    def test_wrong_arguments_in_order(self):
        right = {"kind": PLAIN, "facts": ((A, B),) * 4, "one": A, "other": B}
        wrong = {"kind": WRONG_KINDS, "facts": WRONG_FACTS}
        assert_errors_in_order(self, certify_alike, right, {**wrong, "one": WRONG_FORMULA, "other": WRONG_FORMULA})
        assert_errors_in_order(
            self, certify_told, {"kind": PLAIN, "facts": ((A, B),) * 4, "kept": (A, B, C) * 2, "wanted": B},
            {**wrong, "kept": WRONG_FORMULAS, "wanted": WRONG_FORMULA})
        no_rows = [value for value in ODD_VALUES if isinstance(value, bool) or value not in (0, 1)] + [
            -1, 5, MANY_DIGITS, "1", (1,), EQUAL_TO_ALL]
        assert_errors_in_order(self, certify_index, {"script": SCRIPT, "row": 4}, {
            "script": given(NotAScript, NO_FORMULAS + (A, str(SCRIPT))), "row": given(InvalidIndex, no_rows)})
        no_numbers = [value for value in ODD_VALUES if isinstance(value, bool) or value not in (0, 1, 7)] + [
            -1, 10, MANY_DIGITS, "1", (1,), EQUAL_TO_ALL]
        assert_errors_in_order(self, certify_chains, {"cell": CLOSED, "number": 9}, {
            "cell": given(NotACell, NO_FORMULAS + (A, CLOSED.row)), "number": given(InvalidNumber, no_numbers)})

    def test_everything_stands_in_its_file(self):
        for name in ("certify_alike", "certify_told", "certify_index", "certify_chains"):
            self.assertEqual("thirdback.certificates", getattr(module, name).__module__)

    def test_example_of_the_document(self):
        claim, certificate = certify_alike(PLAIN, (), (A * B) // B, A)
        self.assertEqual([("follows", "plain", (), "((a * b) // b)", "a"), True, False, "apart"], [
            claim, accepts(claim, certificate), accepts(claim, ()), certify_alike(PLAIN, (), A * B, B * A)[0][0]])
        self.assertIs(True, accepts(claim, ((0, (0, 1, 2), 1, (0, 1, 2), 0),)))
        self.assertEqual(["open", "can", "withstands", "breaks"], [
            certify_told(PLAIN, (), (A * B, A * (B * A)), A)[0][0], certify_index(SCRIPT, 3)[0][0],
            certify_chains(CLOSED, 2)[0][0], certify_chains(CLOSED, 3)[0][0]])


if __name__ == "__main__":
    unittest.main()
