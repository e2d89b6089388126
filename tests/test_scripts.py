"""The scripts of thirdback.scripts: rows, texts, ways and runs (points 2 to 5, 12 and 13)."""

import random
import unittest

import slow
import slow_scripts
from common import (
    A, EQUAL_TO_ALL, KINDS, MANY_DIGITS, NO_BEGINNINGS, NO_NAMES, NO_TUPLES, ODD_VALUES, WRONG_KINDS, assert_error,
    assert_errors_in_order, given, indexed)
from thirdback import scripts as module
from thirdback.beginnings import Beginning
from thirdback.errors import (
    InvalidContents, InvalidIndex, InvalidNames, InvalidRows, InvalidText, Lacking, NotABeginning, NotAScript,
    OtherKind)
from thirdback.kinds import Kind
from thirdback.scripts import Script, run

PLAIN = Kind("plain")
BOXES = ("a", "b", "s")
ROWS = ("s = a * b", "same a b 3", "a = b", "a = s // b")
SCRIPT = Script(PLAIN, BOXES, ROWS)
TWELVE = ("same a b 12", "unlike a s 3", "go 3", "a = b", "b = a * s", "same b b 7", "s = a // b", "go 10",
          "unlike s s 11", "a = s >> b", "a = a * a", "b = s")
LONG = Script(Kind("all"), BOXES, TWELVE)
NO_SCRIPTS = ODD_VALUES + (A, PLAIN, Script, str(SCRIPT), ROWS, (SCRIPT,), (PLAIN, BOXES, ROWS))

# Rows that are none in a script with the boxes above, at the index 1 of four.
NO_ROWS = tuple([value for value in ODD_VALUES if value != "a"]) + (
    "a", "a =", "= a", "a = ", " = a", "a == b", "a = b = s", "a=b", "a = b*s", "a = b * s ", " a = b * s",
    "a  = b * s", "a =  b * s", "a = b  * s", "a = b *  s", "a\t= b", "a = b\n", "\na = b", "a = b\n* s", "a = b / s",
    "a = b + s", "a = b > s", "a = b * ", "a = b *", "a = * b", "a = b * s * a", "a = (b * s)", "a = t", "t = a",
    "a = b * t", "a = t * b", "a = A", "A = a", "a = 1", "a = b // s // a", "a = b >> s >>", "a = b >>s", "a := b",
    "same a b", "same a b ", "same a b  3", "same  a b 3", "same a  b 3", "same a b 3 ", " same a b 3", "Same a b 3",
    "same a b 03", "same a b +3", "same a b 3.0", "same a b x", "same a b a", "same a b -3", "same a b 0", "same a b 1",
    "same a b 2", "same a b 5", "same a b 33", "same a t 3", "same t a 3", "same a 3", "same a b s 3", "same a b 3\n",
    "same a b 3 4", "same 3 a b", "unlike a b 2", "unlike a b 5", "unlike a b", "unlike a b 03", "unlike a t 3",
    "unlike t b 3", "unlike a b three", "unlike a 3", "unlike a b 1", "unlikely a b 3", "differ a b 3", "go", "go ",
    "go  3", "go 1", "go 0", "go -1", "go 5", "go 03", "go 3 ", " go 3", "go a", "go a b 3", "go 3 4", "Go 3", "goto 3",
    "go 3\n", "go " + "3" * 3990, "same a b " + "4" * 3990, "= a b", "same = a b", "go = a", "", " ", "\n", "=",
    "a = b # c", "pass", ["a", "=", "b"], b"a = b", ("a = b",), A, EQUAL_TO_ALL)
WRONG_BOXES = indexed(InvalidNames, (
    [(value, None) for value in NO_TUPLES + ((), ["a"], "abs", {"a": 1})]
    + [((value,), 0) for value in NO_NAMES]
    + [(("a", "b", "s", "t", "u")[:at] + (value,) + ("x", "y", "z"), at) for at in range(6) for value in NO_NAMES[::6]]
    + [(("a", "b", "s", "t", "u")[:at] + ("a", "x"), at) for at in range(1, 6)]
    + [(("a", "b", "s", "t", "u", "v", "w"), 6), (("a", "b", "s", "t", "u", "v", "a"), 6), (("A",) * 7, 0),
       (("a", "b", "s", "t", "u", "v", "W", "x"), 6), (("a", "b", "a", "W"), 2),
       (("a", "b", "s", "t", "u", "u", 1), 5)]))


class MakingTest(unittest.TestCase):
    def test_what_it_holds(self):
        for kind in KINDS:
            for boxes, rows in ((BOXES, ROWS), (("a",), ("a = a",)), (BOXES, TWELVE),
                                (("go", "same", "unlike", "a1", "zzzzzzzz", "b"), ("go = same >> unlike", "go 2"))):
                for script in (Script(kind, boxes, rows), Script(rows=rows, boxes=boxes, kind=kind)):
                    self.assertIs(Script, script.__class__)
                    self.assertEqual((kind, boxes, rows), (script.kind, script.boxes, script.rows))
                    self.assertEqual(len(rows), len(script))
                    self.assertTrue(script)
                    self.assertEqual("\n".join((str(kind), " ".join(boxes)) + rows), str(script))

    def test_all_sorts_of_rows(self):
        for row in ("a = b", "a = a", "s = a * a", "s = s // b", "b = a >> s", "same a b 3", "same a a 3", "same a b 4",
                    "unlike s b 3", "unlike s s 4", "go 2", "go 3", "go 4"):
            rows = ("a = b", row, "a = b", "b = a")
            with self.subTest(row):
                self.assertEqual(rows, Script(PLAIN, BOXES, rows).rows)

    def test_words_of_rows_as_names_of_boxes(self):
        boxes = ("go", "same", "unlike", "a")
        rows = ("go = a", "same = go * unlike", "same go same 5", "unlike same unlike 6", "go 5",
                "unlike = same // same")
        script = Script(PLAIN, boxes, rows)
        self.assertEqual([(0, 1, 2), (0, 1, 2, 3, 4)], list(script.ways(5)))
        assert_error(self, InvalidRows, "index", 0, lambda: Script(PLAIN, boxes, ("same go same 1",)))
        assert_error(self, InvalidRows, "index", 0, lambda: Script(PLAIN, boxes, ("go same",)))

    def test_goals_from_the_next_row_but_one_to_the_end(self):
        for count in range(1, 13):
            for at in range(count):
                for goal in range(-1, count + 3):
                    for row, least in ((f"go {goal}", at + 1), (f"same a b {goal}", at + 2),
                                       (f"unlike a b {goal}", at + 2)):
                        rows = ("a = b",) * at + (row,) + ("a = b",) * (count - at - 1)
                        if least <= goal <= count:
                            self.assertEqual(rows, Script(PLAIN, BOXES, rows).rows)
                        else:
                            assert_error(self, InvalidRows, "index", at, lambda: Script(PLAIN, BOXES, rows))

    def test_no_leading_zeros(self):
        for word in ("go", "same a b", "unlike a b"):
            for number in ("03", "003", "0", "00", "0003"):
                rows = ("a = b", f"{word} {number}") + ("a = b",) * 10
                assert_error(self, InvalidRows, "index", 1, lambda: Script(PLAIN, BOXES, rows))
            rows = ("a = b", f"{word} 3") + ("a = b",) * 10
            self.assertEqual(rows, Script(PLAIN, BOXES, rows).rows)

    def test_goals_are_compared_with_the_number_of_elements_passed(self):
        for rows, index in ((("go 13",) + ("a = b",) * 12, 12), (("go 14",) + ("a = b",) * 12, 0),
                            (("same a b 40",) + ("a = b",) * 39, 12), (("go 5", 1, 2, 3, 4), 1),
                            (("a = b",) * 11 + ("go 13", "a = b"), 12), (("a = b",) * 11 + ("go 12", None), 12),
                            (("a = b",) * 11 + ("go 11", None), 11)):
            assert_error(self, InvalidRows, "index", index, lambda: Script(PLAIN, BOXES, rows))

    def test_at_most_four_tests(self):
        tests = ("same a b 12", "unlike a b 12", "same a a 12", "unlike s b 12")
        for places in ((0, 1, 2, 3, 4), (0, 2, 4, 6, 8), (1, 2, 3, 9, 10), (6, 7, 8, 9, 10)):
            rows = ["go 12" if at % 3 == 0 else "a = b * s" for at in range(12)]
            for at, test in zip(places, tests):
                rows[at] = test
            self.assertEqual(12, len(Script(PLAIN, BOXES, tuple(rows))))
            for test in ("same a b 12", "unlike a b 12"):
                rows[places[4]] = test
                assert_error(self, InvalidRows, "index", places[4], lambda: Script(PLAIN, BOXES, tuple(rows)))
                assert_error(self, InvalidRows, "index", places[4], lambda: Script(
                    PLAIN, BOXES, tuple(rows[:places[4] + 1] + [None] * (11 - places[4]))))
        longer = ("same a b 13",) * 11 + ("a = b",) * 3
        assert_error(self, InvalidRows, "index", 4, lambda: Script(PLAIN, BOXES, longer))

    def test_wrong_arguments_in_order(self):
        rows = [(value, None) for value in NO_TUPLES + ((), ["a = b"], "a = b", {"a = b": 1})]
        rows += [((value,), 0) for value in NO_ROWS if value != "go 1"]
        rows += [(ROWS[:1] + (value,) + ROWS[2:], 1) for value in NO_ROWS]
        nowhere = [value for value in NO_ROWS if not isinstance(value, str) or "=" in value][::8]
        rows += [(TWELVE[:at] + (value,) + TWELVE[at + 1:], at) for at in range(12) for value in nowhere]
        rows += [(("a = b",) * 13, 12), (("a = b",) * 12 + (None,), 12), (("a = b",) * 12 + ("same a b 13", 0), 12),
                 (("a = b",) * 300, 12), (("a = b", None) * 7, 1), (("a = b",) * 12 + ("go 12",), 12)]
        assert_errors_in_order(self, Script, {"kind": PLAIN, "boxes": BOXES, "rows": TWELVE}, {
            "kind": WRONG_KINDS, "boxes": WRONG_BOXES, "rows": indexed(InvalidRows, rows)})

    def test_one_to_six_boxes_and_one_to_twelve_rows(self):
        for many in range(1, 7):
            boxes = tuple([f"b{at}" for at in range(many)])
            for count in range(1, 13):
                script = Script(PLAIN, boxes, ("b0 = b0",) * count)
                self.assertEqual((boxes, count), (script.boxes, len(script)))

    def test_never_changes(self):
        for name in ("kind", "boxes", "rows"):
            with self.subTest(name), self.assertRaises(AttributeError):
                setattr(SCRIPT, name, ())
        self.assertEqual((PLAIN, BOXES, ROWS), (SCRIPT.kind, SCRIPT.boxes, SCRIPT.rows))


class TextTest(unittest.TestCase):
    def test_read_what_is_written(self):
        source = random.Random(50)
        for kind, boxes, rows in slow_scripts.random_scripts(source, KINDS, 30, most_rows=12):
            script = Script(kind, boxes, rows)
            for again in (Script.read(str(script)), Script.read(text=str(script))):
                self.assertIs(Script, again.__class__)
                self.assertEqual((kind, boxes, rows, str(script)), (again.kind, again.boxes, again.rows, str(again)))
                self.assertEqual(script, again)

    def test_what_is_no_text(self):
        text = str(SCRIPT)
        self.assertEqual(SCRIPT, Script.read(text))
        wrong = [value for value in NO_SCRIPTS if value != text] + [
            text + "\n", "\n" + text, text + " ", " " + text, text.replace("\n", "\n\n", 1), text.replace("\n", " "),
            text.replace("plain", "Plain"), text.replace("plain", "plain calm"), text.replace("plain\n", ""),
            text.replace("a b s", "a b"), text.replace("a b s", "a  b s"), text.replace("a b s", "a b s "),
            text.replace("a b s", " a b s"), text.replace("a b s", ""), text.replace("a b s", "a b a"),
            text.replace("a b s\n", ""), "plain\na b s", "plain\na b s\n", "plain\n\na = b", "plain", "plain\n", "\n\n",
            text.replace("\n", "\r\n"), "plain\na b c d e f g\na = b", "plain\na\n" + "a = a\n" * 12 + "a = a",
            "plain\na\na = a\nsame a a 3", "(" * 3000, "\n" * 3000, "plain\na\n" + "a = a\n" * 500, text.encode()]
        wrong += [text.replace(ROWS[1], row) for row in NO_ROWS if isinstance(row, str)]
        for value in wrong:
            with self.subTest(value):
                assert_error(self, InvalidText, "given", value, lambda: Script.read(value))
                assert_error(self, InvalidText, "given", value, lambda: Script.read(text=value))

    def test_all_texts_near_a_text(self):
        source = random.Random(51)
        for kind, boxes, rows in slow_scripts.random_scripts(source, KINDS, 4):
            text = str(Script(kind, boxes, rows))
            for _ in range(60):
                at = source.randrange(len(text))
                near = text[:at] + source.choice(("", "a", " ", "\n", "2", "=", "0")) + text[at + source.randint(0, 1):]
                try:
                    self.assertEqual(near, str(Script.read(near)))
                except InvalidText as error:
                    self.assertIs(near, error.given)

    def test_equality(self):
        found = [Script(kind, boxes, rows) for kind in (PLAIN, Kind("plain", calm=True), Kind("all"))
                 for boxes in (BOXES, ("b", "a", "s"), ("a", "b", "s", "t"))
                 for rows in (ROWS, ROWS[:1], ROWS[::-1][:1], ROWS[:1] + ("same a b 4",) + ROWS[2:])]
        for i, one in enumerate(found):
            for j, other in enumerate(found):
                again = Script.read(str(other))
                self.assertIs(i == j, one == again)
                self.assertIs(i != j, one != again)

    def test_never_equal_to_a_value_of_another_class(self):
        for value in NO_SCRIPTS:
            with self.subTest(value):
                self.assertIs(False, SCRIPT == value)
                self.assertIs(False, value == SCRIPT)
                self.assertIs(True, SCRIPT != value)


class WaysTest(unittest.TestCase):
    def test_all_choices_at_the_tests(self):
        source = random.Random(52)
        counts = set()
        for kind, boxes, rows in slow_scripts.random_scripts(source, KINDS, 60, most_rows=12):
            script = Script(kind, boxes, rows)
            for row in range(len(rows) + 1):
                expected = slow_scripts.ways(rows, row)
                with self.subTest(rows=rows, row=row):
                    self.assertEqual(expected, list(script.ways(row)))
                    self.assertEqual(expected, list(script.ways(row=row)))
                counts.add(len(expected))
        self.assertTrue({0, 1, 2, 3, 4, 5} <= counts)

    def test_sixteen_ways(self):
        rows = ("same a b 2", "a = b", "unlike a b 4", "a = b", "same a a 6", "a = b", "unlike a a 8", "a = b")
        ways = list(Script(PLAIN, BOXES, rows).ways(8))
        self.assertEqual(16, len(ways))
        self.assertEqual(sorted(set(ways)), ways)
        self.assertEqual([(0, 1, 2, 3, 4, 5, 6), tuple(range(8)), (0, 2, 4, 6, 7)], [*ways[:2], ways[-1]])

    def test_written_out(self):
        self.assertEqual([()], list(SCRIPT.ways(0)))
        self.assertEqual([(0,)], list(SCRIPT.ways(1)))
        self.assertEqual([(0, 1)], list(SCRIPT.ways(2)))
        self.assertEqual([(0, 1), (0, 1, 2)], list(SCRIPT.ways(3)))
        self.assertEqual([(0, 1, 2, 3), (0, 1, 3)], list(SCRIPT.ways(4)))
        jumping = Script(PLAIN, BOXES, ("go 3", "a = b", "same a b 4", "a = b"))
        self.assertEqual([[()], [], [], [(0,)], [(0, 3)]], [list(jumping.ways(row)) for row in range(5)])

    def test_asked_twice_and_left_half_way(self):
        generator = SCRIPT.ways(3)
        self.assertIs(generator, iter(generator))
        self.assertEqual((0, 1), next(generator))
        self.assertEqual([(0, 1), (0, 1, 2)], list(SCRIPT.ways(3)))
        self.assertEqual([(0, 1, 2)], list(generator))
        self.assertEqual([], list(generator))
        self.assertEqual([(0, 1), (0, 1, 2)], list(SCRIPT.ways(3)))

    def test_no_index(self):
        for script, end in ((SCRIPT, 4), (LONG, 12)):
            self.assertEqual(list(script.ways(end)), slow_scripts.ways(script.rows, end))
            for value in [value for value in ODD_VALUES if isinstance(value, bool) or value not in (0, 1, 7)] + [
                    -1, end + 1, MANY_DIGITS, "0", "1", (0,), [1], SCRIPT, None, EQUAL_TO_ALL]:
                with self.subTest(value):
                    assert_error(self, InvalidIndex, "given", value, lambda: next(script.ways(value)))
                    assert_error(self, InvalidIndex, "given", value, lambda: list(script.ways(row=value)))


def rule_of(kind, rule):
    """A whole rule as a beginning."""
    return Beginning(kind, rule[0], tuple(sorted(rule[1])))


class RunTest(unittest.TestCase):
    def test_as_a_plain_walk_in_whole_rules(self):
        source = random.Random(53)
        seen = 0
        for kind, boxes, rows in slow_scripts.random_scripts(source, KINDS, 12):
            script = Script(kind, boxes, rows)
            for rule in slow.rules_of(kind, 3)[::2]:
                beginning = rule_of(kind, rule)
                for contents in slow.all_contents(min(rule[0], 3), boxes):
                    things = tuple(contents[box] for box in boxes)
                    way, held, at = slow_scripts.come_to(rule[1], rows, contents, len(rows))
                    self.assertEqual(len(rows), at)
                    expected = way, tuple(held[box] for box in boxes)
                    self.assertEqual(expected, run(script, beginning, things))
                    self.assertIn(way, list(script.ways(len(rows))))
                    seen += 1
        self.assertGreater(seen, 1000)

    def test_values_that_lack(self):
        source = random.Random(54)
        lacking = set()
        for kind, boxes, rows in slow_scripts.random_scripts(source, KINDS, 60):
            script = Script(kind, boxes, rows)
            size, triples = source.choice(slow.rules_of(kind, 3))
            some = tuple([t for t in sorted(triples) if source.random() < 0.6])
            beginning = Beginning(kind, size, some)
            things = tuple(source.choices(range(size), k=len(boxes)))
            way, held, at = slow_scripts.come_to(
                frozenset(beginning.triples), rows, dict(zip(boxes, things)), len(rows))
            with self.subTest(str(script), size=size, triples=some, things=things):
                if held is None:
                    lacking.add(at)
                    assert_error(self, Lacking, "index", at, lambda: run(script, beginning, things))
                else:
                    expected = way, tuple(held[box] for box in boxes)
                    self.assertEqual(expected, run(things=things, beginning=beginning, script=script))
                    self.assertEqual(expected, run(script, beginning, things))
        self.assertTrue({0, 1, 2, 3} <= lacking)

    def test_rows_that_are_not_done_may_lack(self):
        script = Script(PLAIN, ("a", "b"), ("same a b 2", "a = a * b", "b = a"))
        self.assertEqual(((0, 2), (1, 1)), run(script, Beginning(PLAIN, 2), (1, 1)))
        assert_error(self, Lacking, "index", 1, lambda: run(script, Beginning(PLAIN, 2), (1, 0)))

    def test_each_sign(self):
        rule = Beginning(PLAIN, 3, ((0, 0, 0), (0, 1, 2), (0, 2, 1), (1, 0, 1), (1, 1, 0), (1, 2, 2), (2, 0, 2),
                                    (2, 1, 1), (2, 2, 0)))
        for i in range(3):
            for j in range(3):
                for sign, value in (("*", rule(i, j)), ("//", rule.first(i, j)), (">>", rule.second(i, j))):
                    script = Script(PLAIN, ("a", "b", "s"), (f"s = a {sign} b",))
                    self.assertEqual(((0,), (i, j, value)), run(script, rule, (i, j, 0)))

    def test_wrong_arguments_in_order(self):
        rule = Beginning(PLAIN, 3, ((0, 0, 0), (0, 1, 2), (0, 2, 1), (1, 0, 1), (1, 1, 0), (1, 2, 2), (2, 0, 2),
                                    (2, 1, 1), (2, 2, 0)))
        no_things = (None, True, False, -1, 3, MANY_DIGITS, "0", (), (0,), [0], {}, A, EQUAL_TO_ALL)
        lengths = ((), (0,), (0, 1), (0, 1, 2, 0), (None,), (None,) * 4, [0, 1, 2])
        rows = [(value, None) for value in NO_TUPLES + lengths]
        rows += [((0, 1, 2)[:at] + (value,) + (0, 1, 2)[at + 1:], at) for at in range(3) for value in no_things]
        rows += [((0, 3, None), 1), ((True, None, 3), 0)]
        others = [Beginning(kind, 3) for kind in KINDS[1:]]
        assert_errors_in_order(self, run, {"script": SCRIPT, "beginning": rule, "things": (1, 2, 0)}, {
            "script": given(NotAScript, NO_SCRIPTS),
            "beginning": given(NotABeginning, NO_BEGINNINGS) + given(OtherKind, others),
            "things": indexed(InvalidContents, rows)})
        calm = Script(KINDS[6], BOXES, ROWS)
        assert_error(self, OtherKind, "given", rule, lambda: run(calm, rule, None))
        assert_error(self, InvalidContents, "index", 2, lambda: run(SCRIPT, Beginning(PLAIN, 2), (0, 1, 2)))
        assert_error(self, Lacking, "index", 0, lambda: run(SCRIPT, Beginning(PLAIN, 2), (0, 1, 1)))
        assert_error(self, InvalidContents, "index", 0, lambda: run(SCRIPT, Beginning(PLAIN, 0), (0, 0, 0)))


class PlaceTest(unittest.TestCase):
    def test_everything_stands_in_its_class_and_file(self):
        for name in ("Script", "run", "reachable", "reaching", "surely_same", "same_ends", "gives_back"):
            self.assertEqual("thirdback.scripts", getattr(module, name).__module__)
        for name in ("read", "kind", "boxes", "rows", "ways", "__str__", "__eq__", "__len__"):
            self.assertIn(name, vars(Script))


if __name__ == "__main__":
    unittest.main()
