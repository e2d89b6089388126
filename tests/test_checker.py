"""The checker of thirdback.checker (points 2, 5 and 18)."""

import collections
import unittest

import bending
import slow
import slow_chains
import slow_checker
import slow_scripts
from common import EQUAL_TO_ALL, KINDS, NO_FORMULAS, ODD_VALUES, A
from test_telling import made_all, random_kept
from thirdback import checker as module
from thirdback.certificates import certify_alike, certify_chains, certify_index, certify_told
from thirdback.chains import Cell
from thirdback.checker import accepts
from thirdback.kinds import Kind
from thirdback.scripts import Script

FORMS = ("follows", "apart", "tells", "open", "can", "never", "withstands", "breaks")
SAME = (0, 1, 2)
CLOSED = Cell(Kind("plain"), ("p",), ("x",), ("q",), (("p", "x", "q"),), stored=("x", "q"), wanted=("x",), begin=("p",),
              end=("q",))


def right_ones(seed, count):
    """For each kind claims with certificates, some of each form."""
    source = bending.make_source(seed)
    for kind in KINDS:
        for _ in range(count):
            facts, one, other = slow.random_question(source)
            yield certify_alike(kind, slow.made_facts(facts), slow.made_of(one), slow.made_of(other))
            kept = random_kept(source, one, ("a", "b"))
            yield certify_told(kind, slow.made_facts(facts), made_all(kept), slow.made_of(one))
            _, boxes, rows = next(slow_scripts.random_scripts(source, [kind], 1))
            script = Script(kind, boxes, rows)
            found = [certify_index(script, row) for row in range(len(rows) + 1)]
            rare = [pair for pair in found if pair[0][0] == "never" and pair[1]]
            yield source.choice(rare or found)
            # Little cells, as the slow checker lays out all their functions.
            yield certify_chains(slow_chains.useful_cell(source, kind, 2, 1), source.randint(0, 2))


class RightTest(unittest.TestCase):
    def test_all_forms(self):
        words = collections.Counter()
        for claim, certificate in right_ones(150, 15):
            self.assertIs(True, accepts(claim, certificate))
            words[claim[0]] += 1
        self.assertEqual(set(FORMS), set(words))
        self.assertGreater(min(words.values()), 12)

    def test_idle_mergings_and_steps(self):
        claim = ("follows", "plain", (), "((a * b) // b)", "a")
        one = (0, SAME, 1, SAME, 0)
        for certificate in ((one,), ((1, SAME, 0, SAME, 0),), (one, one),
                            (one, (0, SAME, 0, SAME, 1), (0, SAME, 1, SAME, 2)),
                            ((1, SAME, 1, SAME, 2), one)):
            self.assertIs(True, accepts(claim, certificate))
        for certificate in ((), ((0, SAME, 1, SAME, 1), one), ((0, SAME, 1, SAME, 2),), (one, (0, SAME, 2, SAME, 0)),
                            ((0, (1, 0, 2), 1, (1, 0, 2), 1),), ((0, SAME, 1, SAME, 3),), ((0, SAME, None, None, 0),)):
            self.assertIs(False, accepts(claim, certificate))
        claim = ("tells", "plain", (), ("a", "(a * b)"), "b")
        for certificate, expected in (
                (((), ((0, 1),)), True), (((), ((0, 1), (0, 0), (0, 2), (0, 1))), True), (((), ((0, 2),)), False),
                (((), ()), False), (((), ((1, 1),)), False), (((), ((0, 3),)), False), (((), ((0, True),)), False)):
            self.assertIs(expected, accepts(claim, certificate))

    def test_another_order(self):
        source = bending.make_source(151)
        accepted = collections.Counter()
        for claim, certificate in right_ones(152, 12):
            parts = certificate[0] if claim[0] == "tells" else certificate
            if claim[0] not in ("follows", "tells", "never", "withstands") or len(parts) < 2:
                continue
            for _ in range(4):
                mixed = tuple(source.sample(parts, len(parts)))
                if claim[0] == "tells":
                    mixed = (mixed, certificate[1])
                expected = slow_checker.judge(claim, mixed)
                self.assertIs(expected, accepts(claim, mixed))
                if claim[0] in ("never", "withstands"):
                    self.assertIs(True, expected)
                accepted[claim[0], expected] += 1
        self.assertGreater(accepted["never", True] + accepted["withstands", True], 30)
        self.assertGreater(min(accepted["follows", True], accepted["follows", False]), 10)

    def test_calm_mergings(self):
        claim = ("follows", "calm plain", (), "(a * a)", "a")
        self.assertIs(True, accepts(claim, ((0, SAME, None, None, 2),)))
        self.assertIs(False, accepts(("follows", "plain") + claim[2:], ((0, SAME, None, None, 2),)))
        for merging in ((0, SAME, None, None, 0), (0, SAME, None, None, 1), (0, SAME, None, SAME, 2),
                        (0, SAME, 0, None, 2), (0, None, None, None, 2), (None, SAME, 0, SAME, 2),
                        (None, None, None, None, 2), (1, SAME, None, None, 2),
                        (0, SAME, None, None, None), (0, SAME, None, (), 2), (0, SAME, False, None, 2)):
            self.assertIs(False, accepts(claim, (merging,)))

    def test_turns_of_the_kind(self):
        for kind in KINDS:
            for turn in bending.TURNS:
                claim = ("follows", str(kind), (), "(a * b)", "(b * a)")
                expected = turn in kind.lot and turn == (1, 0, 2)
                self.assertIs(expected, accepts(claim, ((0, SAME, 1, turn, 2),)))
                claim = ("follows", str(kind), (), "(a * b)", "(a * b)")
                self.assertIs(turn in kind.lot, accepts(claim, ((0, turn, 0, turn, 2),)))

    def test_no_way_and_no_function(self):
        script = "plain\na\ngo 2\na = a"
        self.assertIs(True, accepts(("never", script, 1), ()))
        self.assertIs(False, accepts(("never", script, 2), ()))
        self.assertIs(False, accepts(("never", script, 1), ((),)))
        self.assertIs(False, accepts(("withstands", CLOSED.row, 0), ()))
        self.assertIs(True, accepts(("can", script, 0), (1, (), (0,))))
        self.assertIs(False, accepts(("can", script, 0), (0, (), (0,))))

    def test_each_way_once(self):
        rows = ("same a b 2", "s = a * b", "unlike a a 5", "go 6", "s = b", "s = a")
        for kind in KINDS:
            claim, certificate = certify_index(Script(kind, ("a", "b", "s"), rows), 5)
            self.assertEqual([(0, 1, 2), (0, 2)], [part[0] for part in certificate])
            self.assertIs(True, accepts(claim, certificate[::-1]))
            for part in certificate:
                self.assertIs(False, accepts(claim, (part, part)))
            self.assertIs(False, accepts(claim, certificate[:1] + certificate))
            self.assertIs(False, accepts(claim, certificate[1:]))

    def test_things_of_any_kind(self):
        claim, certificate = certify_chains(CLOSED, 3)
        for value in ([], ["q"], {}, {1}, EQUAL_TO_ALL, None, True, 0, ("q",), b"q"):
            for thing in ((0, value), (value, "q"), value, [0, "q"]):
                self.assertIs(False, accepts(claim, certificate[:-1] + (thing,)))
                self.assertIs(False, accepts(claim, (thing,)))
                self.assertIs(False, accepts(claim[:3] + ((thing,),), certificate))

    def test_values_behind_the_index_need_not_be_known(self):
        script = "plain\na b\nb = a\na = a * b"
        self.assertIs(True, accepts(("can", script, 1), (2, (), (0, 1))))
        self.assertIs(False, accepts(("can", script, 2), (2, (), (0, 1))))
        self.assertIs(True, accepts(("can", script, 2), (2, ((0, 0, 1),), (0, 1))))

    def test_functions_that_no_chain_has(self):
        # More functions than needed, also such as no chain has, do no harm if what comes of them is there.
        claim, certificate = certify_chains(CLOSED, 0)
        self.assertIs(True, accepts(claim, certificate))
        every = [((i, p), (j, q)) for i in range(2) for j in range(2) for p in (True, False) for q in (True, False)]
        for function in every:
            for lost in (0, 1):
                more = certificate + ((function, lost),)
                self.assertIs(slow_checker.judge(claim, more), accepts(claim, more))


class BentTest(unittest.TestCase):
    def test_bent_at_any_place(self):
        source = bending.make_source(153)
        seen = collections.Counter()
        for claim, certificate in right_ones(154, 5):
            for new in bending.some_bent(source, certificate, 150):
                expected = slow_checker.judge(claim, new)
                with self.subTest(claim=claim, certificate=new):
                    self.assertIs(expected, accepts(claim, new))
                seen[claim[0], expected] += 1
            for new in bending.some_bent(source, claim, 100):
                expected = slow_checker.judge(new, certificate)
                with self.subTest(claim=new, certificate=certificate):
                    self.assertIs(expected, accepts(new, certificate))
                seen[claim[0], expected] += 1
        for form in FORMS:
            self.assertGreater(seen[form, False], 500)
        self.assertGreater(sum(seen[form, True] for form in FORMS), 500)

    def test_bent_several_times(self):
        source = bending.make_source(155)
        for claim, certificate in right_ones(156, 4):
            for times in (2, 3, 5):
                for _ in range(8):
                    new = bending.often_bent(source, certificate, times)
                    self.assertIs(slow_checker.judge(claim, new), accepts(claim, new))
                    other = bending.often_bent(source, claim, times)
                    self.assertIs(slow_checker.judge(other, new), accepts(other, new))

    def test_every_certificate_for_every_claim(self):
        pairs = list(right_ones(157, 1))
        for claim, _ in pairs:
            for _, certificate in pairs:
                self.assertIs(slow_checker.judge(claim, certificate), accepts(claim, certificate))

    def test_another_word(self):
        for claim, certificate in right_ones(158, 3):
            for word in FORMS + ODD_VALUES + ("Follows", "follows ", "", EQUAL_TO_ALL):
                new = (word, *claim[1:])
                self.assertIs(word == claim[0] and word.__class__ is str, accepts(new, certificate))

    def test_what_the_slow_checker_says_of_true_claims(self):
        # The claim that is the opposite is never accepted with the same certificate.
        opposite = {"follows": "apart", "apart": "follows", "tells": "open", "open": "tells", "can": "never",
                    "never": "can"}
        for claim, certificate in right_ones(159, 6):
            if claim[0] in opposite:
                self.assertIs(False, accepts((opposite[claim[0]], *claim[1:]), certificate))


class LimitTest(unittest.TestCase):
    def test_claims_at_the_limits_and_just_beyond(self):
        eight = "a"
        for _ in range(8):
            eight = f"({eight} * b)"
        nine = f"({eight} * b)"
        for claim, expected in (
                (("follows", "plain", (), eight, eight), True), (("follows", "plain", (), nine, nine), False),
                (("follows", "plain", (("a", "b"),) * 4, "a", "b"), True),
                (("follows", "plain", (("a", "b"),) * 5, "a", "b"), False),
                (("follows", "plain", (("a", "b", "c"),), "a", "a"), False),
                (("follows", "plain", (("a",),), "a", "a"), False),
                (("follows", "plain", [("a", "b")], "a", "b"), False),
                (("follows", "plain", (["a", "b"],), "a", "b"), False),
                (("follows", "plain", (), "a", "a"), True), (("follows", "calm", (), "a", "a"), False),
                (("follows", Kind("plain"), (), "a", "a"), False), (("follows", "plain", (), A, A), False),
                (("follows", "plain", (), "a", "a", ()), False), (("follows", "plain", (), "a"), False),
                (("follows",), False)):
            self.assertIs(expected, accepts(claim, ()))
        for claim, expected in (
                (("tells", "plain", (), ("a",) * 6, "a"), True), (("tells", "plain", (), ("a",) * 7, "a"), False),
                (("tells", "plain", (), ["a"], "a"), False), (("tells", "plain", (), "a", "a"), False),
                (("tells", "plain", (), (), "a"), False), (("tells", "plain", (), ("a", "A"), "a"), False)):
            self.assertIs(expected, accepts(claim, ((), ())))
        for number, expected in ((0, True), (1, True), (2, True), (3, False), (9, False), (10, False), (-1, False),
                                 (True, False)):
            certificate = certify_chains(CLOSED, number if number in (0, 1, 2) and number is not True else 0)[1]
            self.assertIs(expected, accepts(("withstands", CLOSED.row, number), certificate))

    def test_numbers_from_0_to_9(self):
        cell = Cell(Kind("plain"), ("p",), (), ("q",), (("p", "p", "q"),), stored=("q",), wanted=("q",), begin=("p",))
        for number in range(10):
            claim, certificate = certify_chains(cell, number)
            self.assertEqual(("withstands", cell.row, number), claim)
            self.assertIs(True, accepts(claim, certificate))
            self.assertIs(number <= 9, accepts(("withstands", cell.row, number), certificate))
        self.assertIs(False, accepts(("withstands", cell.row, 10), certificate))

    def test_two_hundred_cells(self):
        lost = ((199, "q"), (199, "x"))
        opened = Cell(CLOSED.kind, ("p",), ("x",), ("q",), CLOSED.triples, stored=("x", "q"), wanted=("x",),
                      begin=("p",))
        got = tuple([(at, name) for at in range(200) for name in ("p", "q", "x") if (at, name) not in lost
                     and (name != "p" or at == 0)])
        self.assertIs(True, accepts(("breaks", opened.row, 200, lost), got))
        self.assertIs(False, accepts(("breaks", opened.row, 199, lost), got))
        more = got + ((200, "q"),)
        self.assertIs(False, accepts(("breaks", opened.row, 201, lost), more))
        self.assertIs(False, accepts(("breaks", opened.row, 200, lost), got[:-1]))
        self.assertIs(False, accepts(("breaks", opened.row, 200, lost[::-1]), got))
        self.assertIs(False, accepts(("breaks", opened.row, 200, lost), got[::-1]))
        self.assertIs(False, accepts(("breaks", opened.row, 200, lost[:1]), got))
        self.assertIs(False, accepts(("breaks", opened.row, 200, lost), list(got)))


class AnyValueTest(unittest.TestCase):
    def test_any_values(self):
        values = ODD_VALUES + NO_FORMULAS + (
            EQUAL_TO_ALL, (EQUAL_TO_ALL,) * 5, ("follows", EQUAL_TO_ALL), CLOSED, CLOSED.row)
        right = [("follows", "plain", (), "a", "a"), ("tells", "plain", (), ("a",), "a")]
        for claim in values + tuple(right):
            for certificate in values:
                expected = slow_checker.judge(claim, certificate)
                self.assertIs(expected, accepts(claim, certificate))

    def test_random_values(self):
        source = bending.make_source(160)
        for _ in range(3000):
            claim = source.choice((bending.any_value(source), (source.choice(FORMS), *[
                bending.any_value(source, 2) for _ in range(source.randint(1, 5))])))
            certificate = bending.any_value(source)
            self.assertIs(slow_checker.judge(claim, certificate), accepts(claim, certificate))

    def test_any_values_in_right_claims(self):
        source = bending.make_source(161)
        for claim, certificate in right_ones(162, 3):
            for at in range(1, len(claim)):
                for value in ODD_VALUES + (EQUAL_TO_ALL, A, (EQUAL_TO_ALL,)):
                    new = claim[:at] + (value,) + claim[at + 1:]
                    self.assertIs(slow_checker.judge(new, certificate), accepts(new, certificate))
            for value in ODD_VALUES + (EQUAL_TO_ALL, A, (EQUAL_TO_ALL,) * 3):
                if isinstance(certificate, tuple) and certificate:
                    at = source.randrange(len(certificate))
                    new = certificate[:at] + (value,) + certificate[at + 1:]
                    self.assertIs(slow_checker.judge(claim, new), accepts(claim, new))

    def test_texts_with_thousands_of_parentheses(self):
        for text in ("(" * 3990, ")" * 3990, "()" * 1990, "(a * " * 700 + "b" + ")" * 400,
                     "(" * 1990 + "a" + ")" * 1990, "\n" * 3990):
            for claim in (("follows", "plain", (), text, text), ("apart", "plain", ((text, text),), "a", "b"),
                          ("tells", "plain", (), (text,), text), ("open", "plain", (), ("a",), text), ("can", text, 0),
                          ("never", "plain\na\n" + text, 0), ("withstands", (text,) * 9, 0),
                          ("breaks", (text,) * 9, 1, ()),
                          ("follows", text, (), "a", "a"), (text,), (text, text, text)):
                for certificate in ((), text, (text,), ((), ()), (1, (), ())):
                    self.assertIs(False, accepts(claim, certificate))

    def test_what_is_passed_does_not_change(self):
        for claim, certificate in right_ones(163, 2):
            before = repr((claim, certificate))
            accepts(claim, certificate)
            self.assertEqual(before, repr((claim, certificate)))
            self.assertIs(True, accepts(claim, certificate))

    def test_it_stands_in_its_file(self):
        self.assertEqual("thirdback.checker", module.accepts.__module__)


if __name__ == "__main__":
    unittest.main()
