"""Where scripts can come to and what their boxes surely share: thirdback.scripts (points 2 to 6, 12 and 13)."""

import collections
import random
import unittest

import slow
import slow_scripts
from common import (
    A, EQUAL_TO_ALL, KINDS, MANY_DIGITS, NO_TUPLES, ODD_VALUES, assert_error, assert_errors_in_order, given, indexed)
from thirdback.beginnings import Beginning
from thirdback.errors import InvalidIndex, InvalidNames, NotAScript, OtherKind, UnknownName
from thirdback.kinds import Kind
from thirdback.scripts import Script, gives_back, reachable, reaching, run, same_ends, surely_same

PLAIN = Kind("plain")
SCRIPT = Script(PLAIN, ("a", "b", "s"), ("s = a * b", "same a b 3", "a = b", "a = s // b"))
NO_SCRIPTS = ODD_VALUES + (A, PLAIN, Script, str(SCRIPT), SCRIPT.rows, (SCRIPT,))
NO_ROWS = tuple([value for value in ODD_VALUES if isinstance(value, bool) or value not in (0, 1)]) + (
    -1, 5, 7, MANY_DIGITS, "1", (1,), SCRIPT, EQUAL_TO_ALL)
NO_BOXES = tuple([value for value in ODD_VALUES if value != "a"]) + (
    "A", "ab", "c", "t", " a", "a ", "a b s", ("a",), ["a"], A, SCRIPT, EQUAL_TO_ALL)
WRONG_ROW = given(InvalidIndex, NO_ROWS)
WRONG_BOX = given(UnknownName, NO_BOXES)
WRONG_CHOSEN = indexed(InvalidNames, (
    [(value, None) for value in NO_TUPLES + (["a"], "abs", SCRIPT)]
    + [((value,), 0) for value in NO_BOXES]
    + [(("s", "a", "b")[:at] + (value,), at) for at in range(4) for value in NO_BOXES[::4]]
    + [(("s", "a", "s"), 2), (("a", "a"), 1), (("a", "b", "s", "a"), 3), (("b", "t", "t"), 1), (("a", "a", "A"), 1)]))


def scripts(seed, count, most_rows=7):
    """For each kind so many scripts."""
    return slow_scripts.random_scripts(random.Random(seed), KINDS, count, most_rows)


def rows_near(source, boxes, rows):
    """The rows, now and then with other ones in the place of some."""
    near = list(rows)
    for _ in range(source.choice((0, 1, 1, 2))):
        at = source.randrange(len(rows))
        near[at] = source.choice([row for row in rows if "=" in row] or ["a = a".replace("a", boxes[0])])
    return tuple(near)


def reversible_rows(source, boxes, count):
    """Rows each of which can be taken back, as long as the boxes have different names."""
    rows = []
    for at in range(count):
        a, b = source.sample(boxes, 2)
        rows.append(source.choice((f"{a} = {a} * {b}", f"{a} = {a} // {b}", f"{a} = {b} >> {a}", f"{a} = {b} * {a}",
                                   f"{a} = {b} // {a}", f"{a} = {a} >> {b}")))
    return tuple(rows)


class ReachableTest(unittest.TestCase):
    def test_as_in_a_plain_closed_table(self):
        lacking = collections.Counter()
        for kind, boxes, rows in scripts(60, 90, most_rows=12):
            script = Script(kind, boxes, rows)
            expected = slow_scripts.reachable(kind, boxes, rows)
            with self.subTest(str(script)):
                self.assertEqual(expected, reachable(script))
                self.assertEqual(expected, reachable(script=script))
            self.assertTrue({0, len(rows)} <= set(expected))
            ways = [row for row in range(len(rows) + 1) if slow_scripts.ways(rows, row)]
            lacking[str(kind)] += len(ways) > len(expected)
        self.assertTrue(all(lacking[str(kind)] > 3 for kind in KINDS))

    def test_what_a_whole_rule_comes_to_can_be_reached(self):
        seen = 0
        for kind, boxes, rows in scripts(61, 12):
            script = Script(kind, boxes, rows)
            reached = reachable(script)
            for rule in slow.rules_of(kind, 2)[::2]:
                for contents in slow.all_contents(min(rule[0], 4), boxes):
                    way = slow_scripts.come_to(rule[1], rows, contents, len(rows))[0]
                    self.assertTrue(set(way) <= set(reached))
                    seen += len(way)
        self.assertGreater(seen, 5000)

    def test_what_reaching_returns(self):
        missing = 0
        for kind, boxes, rows in scripts(62, 40, most_rows=12):
            script = Script(kind, boxes, rows)
            reached = slow_scripts.reachable(kind, boxes, rows)
            for row in range(len(rows) + 1):
                found = reaching(script, row)
                with self.subTest(str(script), row=row):
                    self.assertEqual(row in reached, found is not None)
                    if found is None:
                        missing += 1
                        continue
                    beginning, things = found
                    self.assertIs(Beginning, beginning.__class__)
                    self.assertEqual(kind, beginning.kind)
                    self.assertTrue(slow.is_beginning(kind, beginning.size, beginning.triples))
                    self.assertEqual((tuple, len(boxes)), (things.__class__, len(things)))
                    way, held, at = slow_scripts.come_to(
                        frozenset(beginning.triples), rows, dict(zip(boxes, things)), row)
                    self.assertEqual(row, at)
                    self.assertIsNotNone(held)
                    self.assertIn(way, list(script.ways(row)))
                    self.assertEqual(found, reaching(row=row, script=script))
        self.assertGreater(missing, 100)

    def test_reaching_the_end_gives_a_run(self):
        for kind, boxes, rows in scripts(63, 20):
            script = Script(kind, boxes, rows)
            beginning, things = reaching(script, len(rows))
            way, _ = run(script, beginning, things)
            self.assertIn(way, list(script.ways(len(rows))))

    def test_written_out(self):
        for rows, expected in (
                (("unlike a a 3", "a = b", "b = a"), (0, 1, 2, 3)), (("unlike a a 2", "go 3", "a = b"), (0, 1, 3)),
                (("same a a 2", "a = b"), (0, 2)), (("go 2", "a = b"), (0, 2)),
                (("s = a * b", "a = s // b", "unlike a a 4", "go 5", "a = b"), (0, 1, 2, 3, 5)),
                (("s = a * b", "b = b", "s = s // b", "same s a 5", "a = b"), (0, 1, 2, 3, 5)),
                (("s = a * a", "same s a 3", "a = b"), None)):
            for kind in KINDS:
                if expected is None:
                    self.assertEqual((0, 1, 3) if kind.calm else (0, 1, 2, 3),
                                     reachable(Script(kind, ("a", "b", "s"), rows)))
                else:
                    self.assertEqual(expected, reachable(Script(kind, ("a", "b", "s"), rows)))
        turned = ("s = a * b", "t = b * a", "same s t 4", "go 5", "a = b")
        for kind in KINDS:
            expected = (0, 1, 2, 4, 5) if kind.turns in ("sides", "all") else (0, 1, 2, 3, 4, 5)
            self.assertEqual(expected, reachable(Script(kind, ("a", "b", "s", "t"), turned)))

    def test_two_tests_that_cannot_be_together(self):
        rows = ("unlike a b 2", "go 6", "s = a * b", "t = a * a", "same s t 6", "go 7", "a = a", "a = a")
        self.assertEqual((0, 1, 2, 3, 4, 5, 6, 7, 8), reachable(Script(PLAIN, ("a", "b", "s", "t"), rows)))
        rows = ("same a b 2", "go 8", "unlike b c 4", "go 8", "same a c 6", "go 8", "a = b")
        self.assertEqual((0, 1, 2, 3, 4, 5, 7), reachable(Script(PLAIN, ("a", "b", "c"), rows[:1] + tuple(
            row.replace("8", "7") for row in rows[1:]))))

    def test_wrong_arguments_in_order(self):
        assert_errors_in_order(self, reachable, {"script": SCRIPT}, {"script": given(NotAScript, NO_SCRIPTS)})
        assert_errors_in_order(self, reaching, {"script": SCRIPT, "row": 4}, {
            "script": given(NotAScript, NO_SCRIPTS), "row": WRONG_ROW})


class SurelySameTest(unittest.TestCase):
    def test_as_in_a_plain_closed_table(self):
        source = random.Random(64)
        found = collections.Counter()
        for kind, boxes, rows in scripts(65, 60, most_rows=10):
            script = Script(kind, boxes, rows)
            for row in range(len(rows) + 1):
                one, other = source.choice(boxes), source.choice(boxes)
                expected = slow_scripts.surely_same(kind, boxes, rows, row, one, other)
                with self.subTest(str(script), row=row, one=one, other=other):
                    self.assertIs(expected, surely_same(script, row, one, other))
                    self.assertIs(expected, surely_same(other=one, one=other, row=row, script=script))
                found[expected, one == other] += 1
        self.assertGreater(min(found[True, False], found[False, False]), 300)
        self.assertEqual(0, found[False, True])

    def test_in_whole_rules(self):
        kept = []
        for kind, boxes, rows in scripts(66, 25):
            script = Script(kind, boxes, rows)
            pairs = [(row, one, other) for row in range(len(rows) + 1) for one in boxes for other in boxes
                     if one < other and surely_same(script, row, one, other)]
            for rule in slow.rules_of(kind, 2)[::3] if pairs else ():
                for contents in slow.all_contents(min(rule[0], 4), boxes):
                    for row, one, other in pairs:
                        _, held, at = slow_scripts.come_to(rule[1], rows, contents, row)
                        if at == row:
                            self.assertEqual(held[one], held[other])
                            kept.append(row)
        self.assertGreater(len(kept), 1000)

    def test_an_index_that_cannot_be_reached(self):
        script = Script(PLAIN, ("a", "b"), ("same a a 2", "a = b", "b = b"))
        self.assertIs(True, surely_same(script, 1, "a", "b"))
        self.assertIs(False, surely_same(script, 2, "a", "b"))

    def test_wrong_arguments_in_order(self):
        assert_errors_in_order(self, surely_same, {"script": SCRIPT, "row": 4, "one": "a", "other": "s"}, {
            "script": given(NotAScript, NO_SCRIPTS), "row": WRONG_ROW, "one": WRONG_BOX, "other": WRONG_BOX})


class SameEndsTest(unittest.TestCase):
    def test_as_in_a_plain_closed_table(self):
        source = random.Random(67)
        found = collections.Counter()
        for kind, boxes, rows in scripts(68, 70):
            others = rows_near(source, boxes, rows)
            chosen = tuple(source.sample(boxes, source.randint(0, len(boxes))))
            script, another = Script(kind, boxes, rows), Script(kind, boxes, others)
            expected = slow_scripts.same_ends(kind, boxes, rows, others, chosen)
            with self.subTest(str(script), others=others, chosen=chosen):
                self.assertIs(expected, same_ends(script, another, chosen))
                self.assertIs(expected, same_ends(boxes=chosen, another=script, script=another))
            found[expected, rows == others or not chosen] += 1
        self.assertGreater(min(found[True, False], found[False, False]), 60)
        self.assertEqual(0, found[False, True])

    def test_in_whole_rules(self):
        source = random.Random(69)
        seen = 0
        for kind, boxes, rows in scripts(70, 30):
            others = rows_near(source, boxes, rows)
            chosen = [box for box in boxes if same_ends(
                Script(kind, boxes, rows), Script(kind, boxes, others), (box,))]
            if not chosen or others == rows:
                continue
            self.assertIs(True, same_ends(Script(kind, boxes, rows), Script(kind, boxes, others), tuple(chosen)))
            for rule in slow.rules_of(kind, 2)[::3]:
                for contents in slow.all_contents(min(rule[0], 4), boxes):
                    ends = [slow_scripts.come_to(rule[1], those, contents, len(rows))[1] for those in (rows, others)]
                    for box in chosen:
                        self.assertEqual(ends[0][box], ends[1][box])
                        seen += 1
        self.assertGreater(seen, 1000)

    def test_written_out(self):
        boxes = ("a", "b", "s")
        for kind in KINDS:
            one = Script(kind, boxes, ("s = a * b",))
            other = Script(kind, boxes, ("s = b * a",))
            longer = Script(kind, boxes, ("same a b 3", "s = a * b", "go 4", "s = b * a", "b = b"))
            self.assertIs(kind.turns in ("sides", "all"), same_ends(one, other, ("s",)))
            self.assertIs(True, same_ends(one, other, ("a", "b")))
            self.assertIs(True, same_ends(one, other, ()))
            self.assertIs(True, same_ends(one, longer, boxes))
            self.assertIs(False, same_ends(one, Script(kind, boxes, ("a = b",)), ("a",)))
            self.assertIs(True, same_ends(one, Script(kind, boxes, ("a = b",)), ("b",)))

    def test_wrong_arguments_in_order(self):
        another = Script(PLAIN, ("a", "b", "s"), ("a = b",) * 12)
        others = [Script(kind, boxes, ("a = b",)) for kind in KINDS[1:] for boxes in (("a", "b", "s"), ("a", "b"))]
        boxes = [Script(PLAIN, names, ("a = b",)) for names in (("a", "b"), ("b", "a", "s"), ("a", "b", "s", "t"))]
        wrong = given(NotAScript, NO_SCRIPTS) + given(OtherKind, others) + indexed(
            InvalidNames, [(script, None) for script in boxes])
        assert_errors_in_order(self, same_ends, {"script": SCRIPT, "another": another, "boxes": ("s", "b", "a")}, {
            "script": given(NotAScript, NO_SCRIPTS), "another": wrong, "boxes": WRONG_CHOSEN})
        for script in others[::3]:
            assert_error(self, OtherKind, "given", script, lambda: same_ends(SCRIPT, script, ("A",)))
        assert_error(self, InvalidNames, "index", None, lambda: same_ends(SCRIPT, boxes[0], ("a", "A")))


class GivesBackTest(unittest.TestCase):
    def questions(self, seed, count):
        """For each kind so many scripts, many of which can be taken back, with kept boxes and a wanted one."""
        source = random.Random(seed)
        for kind in KINDS:
            for at in range(count):
                boxes = ("a", "b", "s", "t")[:source.randint(2, 4)]
                rows = slow_scripts.random_rows(source, boxes, source.randint(1, 6))
                kept = tuple(source.sample(boxes, source.randint(0, len(boxes))))
                wanted = source.choice(boxes)
                if at % 3 == 1:
                    rows = reversible_rows(source, boxes, source.randint(1, 4))
                    kept = tuple(source.sample(boxes, source.choice((len(boxes), len(boxes), len(boxes) - 1))))
                elif at % 3 == 2:
                    # The box a is lost, and what it held is in s, mixed with b.
                    boxes, kept, wanted = ("a", "b", "s"), ("s", "b"), "a"
                    rows = (source.choice(("s = a * b", "s = a >> b", "s = b // a")), "a = b")
                    rows = rows + reversible_rows(source, kept, source.randint(0, 3))
                if at % 4 == 0:
                    rows = rows + (f"same a b {len(rows) + 2}", "b = a // b")
                yield kind, boxes, rows, kept, wanted

    def test_as_in_a_plain_closed_table(self):
        found = collections.Counter()
        for kind, boxes, rows, kept, wanted in self.questions(71, 50):
            script = Script(kind, boxes, rows)
            expected = slow_scripts.gives_back(kind, boxes, rows, kept, wanted)
            with self.subTest(str(script), kept=kept, wanted=wanted):
                self.assertIs(expected, gives_back(script, kept, wanted))
                self.assertIs(expected, gives_back(wanted=wanted, kept=kept[::-1], script=script))
            found[expected, wanted in kept] += 1
        self.assertGreater(min(found[expected, is_kept] for expected in (True, False) for is_kept in (True, False)), 25)

    def test_in_whole_rules(self):
        seen = collections.Counter()
        for kind, boxes, rows, kept, wanted in self.questions(72, 30):
            if not gives_back(Script(kind, boxes, rows), kept, wanted):
                continue
            for size, triples in slow.rules_of(kind, 2)[::3]:
                first = {}
                for contents in slow.all_contents(min(size, 4), boxes):
                    held = slow_scripts.come_to(triples, rows, contents, len(rows))[1]
                    key = tuple(held[box] for box in kept)
                    self.assertEqual(contents[wanted], first.setdefault(key, contents[wanted]))
                    seen[str(kind)] += 1
        self.assertTrue(all(seen[str(kind)] > 20 for kind in KINDS))

    def test_written_out(self):
        for kind in KINDS:
            script = Script(kind, ("a", "b", "s"), ("s = a * b",))
            for kept, wanted, expected in (
                    (("s", "b"), "a", True), (("a", "s"), "b", True), (("a", "b", "s"), "s", False),
                    (("s",), "a", False),
                    ((), "a", False), (("a",), "a", True), (("a", "b"), "a", True), (("b",), "a", False)):
                self.assertIs(expected, gives_back(script, kept, wanted))
            square = Script(kind, ("a",), ("a = a * a",))
            self.assertIs(kind.calm, gives_back(square, ("a",), "a"))

    def test_wrong_arguments_in_order(self):
        assert_errors_in_order(self, gives_back, {"script": SCRIPT, "kept": ("s", "a", "b"), "wanted": "b"}, {
            "script": given(NotAScript, NO_SCRIPTS), "kept": WRONG_CHOSEN, "wanted": WRONG_BOX})


class ExampleTest(unittest.TestCase):
    def test_example_of_the_document(self):
        third = Beginning(PLAIN, 3, ((0, 0, 0), (0, 1, 2), (0, 2, 1), (1, 0, 1), (1, 1, 0), (1, 2, 2), (2, 0, 2),
                                     (2, 1, 1), (2, 2, 0)))
        self.assertEqual(
            [True, [(0, 1), (0, 1, 2)], (0, 1, 2, 3, 4), True, True, False],
            [Script.read(str(SCRIPT)) == SCRIPT, list(SCRIPT.ways(3)), reachable(SCRIPT),
             surely_same(SCRIPT, 3, "a", "b"), gives_back(SCRIPT, ("a", "b"), "a"),
             gives_back(SCRIPT, ("a", "b"), "s")])
        self.assertEqual(((0, 1, 2, 3), (1, 2, 2)), run(SCRIPT, third, (1, 2, 0)))


if __name__ == "__main__":
    unittest.main()
