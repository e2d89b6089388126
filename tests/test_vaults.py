"""The vaults of thirdback.vaults (points 2 to 5, 8 and 9)."""

import random
import unittest

import slow
from common import (
    A, B, C, EQUAL_TO_ALL, KINDS, NO_FORMULAS, NO_NAMES, NO_TUPLES, ODD_VALUES, WRONG_KINDS, assert_error,
    assert_errors_in_order, indexed)
from thirdback import vaults as module
from thirdback.beginnings import Beginning
from thirdback.errors import InvalidNames, NotAFormula, NothingToUndo, TooMany, UnknownName
from thirdback.formulas import Formula, letter
from thirdback.kinds import Kind
from thirdback.vaults import Vault

PLAIN, SIDES = Kind("plain"), Kind("sides")
BOXES = ("a", "b", "s", "t")
NO_BOXES = tuple([value for value in ODD_VALUES if value != "a"]) + (
    "A", "c", "x", "ab", " a", "a ", "a b", ("a",), ["a"], A, Vault, EQUAL_TO_ALL)


class Plain:
    """A vault by the words of the document, with its triples in a set."""

    def __init__(self, kind, boxes):
        self.kind, self.size = kind, 0
        self.triples = set()
        self.boxes = {box: self.new() for box in boxes}

    def new(self):
        """A thing more."""
        if self.kind.calm:
            self.triples.add((self.size, self.size, self.size))
        self.size += 1
        return self.size - 1

    def value(self, tree):
        """The value of a formula, for which the rule grows."""
        if isinstance(tree, str):
            return self.boxes[tree]
        left = self.value(tree[1])
        right = self.value(tree[2])
        here = {"*": (0, 1, 2), "//": (2, 1, 0), ">>": (0, 2, 1)}[tree[0]]
        for triple in self.triples:
            if (triple[here[0]], triple[here[1]]) == (left, right):
                return triple[here[2]]
        made = self.new()
        triple = {"*": (left, right, made), "//": (made, right, left), ">>": (left, made, right)}[tree[0]]
        self.triples |= slow.with_images(self.kind, [triple])
        return made

    def set(self, box, tree):
        """Sets a box."""
        self.boxes[box] = self.value(tree)


def picture(vault):
    """All that can be seen of a vault."""
    return [vault[box] for box in vault], vault.beginning, vault.log, len(vault), list(vault)


def random_settings(source, boxes, count, most=3):
    """So many settings as (box, tree), which often undo what was done before."""
    found = []
    for _ in range(count):
        tree = slow.random_tree(source, boxes, source.randint(0, most))
        if found and source.random() < 0.5:
            _, other = source.choice(found)
            tree = slow.reworked(source, boxes, other)
        if slow.operations(tree) > 8:
            tree = source.choice(boxes)
        found.append((source.choice(boxes), tree))
    return found


class MakingTest(unittest.TestCase):
    def test_at_first(self):
        for kind in KINDS:
            for boxes in (("a",), BOXES, ("z9", "y", "x", "w", "v", "u")):
                for vault in (Vault(kind, boxes), Vault(boxes=boxes, kind=kind)):
                    self.assertIs(Vault, vault.__class__)
                    self.assertEqual(Beginning(kind, len(boxes)), vault.beginning)
                    self.assertEqual(list(range(len(boxes))), [vault[box] for box in boxes])
                    self.assertEqual((list(boxes), len(boxes), ()), (list(vault), len(vault), vault.log))
                    self.assertTrue(vault)
                    self.assertTrue(all(box in vault for box in boxes))

    def test_wrong_arguments_in_order(self):
        six = ("a", "b", "s", "t", "u", "v")
        rows = [(value, None) for value in NO_TUPLES + ((), ["a"], "abs", {"a": 1})]
        rows += [((value,), 0) for value in NO_NAMES]
        rows += [(six[:at] + (value,) + six[at + 1:], at) for at in range(6) for value in NO_NAMES[::7]]
        rows += [(six[:at] + ("a", "x"), at) for at in range(1, 6)]
        rows += [(six + ("w",), 6), (six + ("a",), 6), (six + (None, "w"), 6), (six[:5] + ("s", "w"), 5)]
        assert_errors_in_order(self, Vault, {"kind": PLAIN, "boxes": six}, {
            "kind": WRONG_KINDS, "boxes": indexed(InvalidNames, rows)})

    def test_two_vaults_are_never_equal(self):
        one, other = Vault(PLAIN, BOXES), Vault(PLAIN, BOXES)
        self.assertIs(False, one == other)
        self.assertIs(True, one != other)
        for value in ODD_VALUES + (Vault, BOXES, one.beginning, EQUAL_TO_ALL):
            self.assertIs(False, one == value)
            self.assertIs(True, one != value)
        self.assertIs(True, one == one)

    def test_what_cannot_be_set(self):
        vault = Vault(PLAIN, BOXES)
        for name in ("beginning", "log"):
            with self.assertRaises(AttributeError):
                setattr(vault, name, ())


class SettingTest(unittest.TestCase):
    def test_as_by_the_words_of_the_document(self):
        source = random.Random(120)
        for kind in KINDS:
            for _ in range(25):
                boxes = BOXES[:source.randint(1, 4)]
                vault, plain = Vault(kind, boxes), Plain(kind, boxes)
                settings = random_settings(source, boxes, source.randint(1, 7))
                for at, (box, tree) in enumerate(settings):
                    before = vault.beginning
                    size = before.size
                    plain.set(box, tree)
                    if plain.size > 40:
                        break
                    vault[box] = slow.made_of(tree)
                    with self.subTest(str(kind), settings=settings[:at + 1]):
                        self.assertEqual(plain.boxes, {name: vault[name] for name in vault})
                        self.assertEqual((plain.size, tuple(sorted(plain.triples))),
                                         (vault.beginning.size, vault.beginning.triples))
                        self.assertEqual(tuple([(name, slow.text_of(other)) for name, other in settings[:at + 1]]),
                                         vault.log)
                        self.assertEqual(size, before.size)
                        for one in boxes:
                            for other in boxes:
                                expected = plain.boxes[one] == plain.boxes[other]
                                self.assertIs(expected, vault.same(one, other))
                                self.assertIs(expected, vault.same(other=one, one=other))

    def test_against_a_plain_closed_table(self):
        source = random.Random(121)
        same = 0
        for kind in KINDS:
            for _ in range(25):
                boxes = BOXES[:source.randint(2, 4)]
                vault, held = Vault(kind, boxes), {box: box for box in boxes}
                things, triples = list(boxes), []

                def worked_out(tree):
                    if isinstance(tree, str):
                        return held[tree]
                    left, right, made = worked_out(tree[1]), worked_out(tree[2]), len(things)
                    things.append(made)
                    triples.append({"*": (left, right, made), "//": (made, right, left),
                                    ">>": (left, made, right)}[tree[0]])
                    return made

                for box, tree in random_settings(source, boxes, source.randint(1, 5), 2):
                    held[box] = worked_out(tree)
                    if len(things) > 40:
                        break
                    vault[box] = slow.made_of(tree)
                    classes = slow.closed(kind, things, triples, [])
                    for one in boxes:
                        for other in boxes:
                            expected = classes[held[one]] == classes[held[other]]
                            self.assertIs(expected, vault.same(one, other))
                            same += expected and one != other
        self.assertGreater(same, 100)

    def test_in_small_whole_rules(self):
        source = random.Random(122)
        seen = 0
        for kind in KINDS:
            for _ in range(8):
                boxes = BOXES[:3]
                vault = Vault(kind, boxes)
                settings = random_settings(source, boxes, source.randint(1, 4), 2)
                for box, tree in settings:
                    vault[box] = slow.made_of(tree)
                differ = {(one, other) for one in boxes for other in boxes if not vault.same(one, other)}
                for size, triples in slow.rules_of(kind, 3)[::3]:
                    for contents in slow.all_contents(min(size, 5), boxes):
                        for box, tree in settings:
                            contents = {**contents, box: slow.value_in(triples, tree, contents)}
                        for one in boxes:
                            for other in boxes:
                                if vault.same(one, other):
                                    self.assertEqual(contents[one], contents[other])
                                elif contents[one] != contents[other]:
                                    differ.discard((one, other))
                        seen += 1
                self.assert_differ_in_its_own_rule(vault, boxes, differ)
        self.assertGreater(seen, 1000)

    def assert_differ_in_its_own_rule(self, vault, boxes, differ):
        """The beginning is a part of a rule in which these boxes differ, though they did in no small one."""
        self.assertTrue(slow.is_beginning(vault.beginning.kind, vault.beginning.size, vault.beginning.triples))
        again = dict(zip(boxes, range(len(boxes))))
        triples = frozenset(vault.beginning.triples)
        for box, text in vault.log:
            again[box] = slow.value_in(triples, slow.tree_of(Formula.read(text)), again)
        for one, other in differ:
            self.assertNotEqual(again[one], again[other])

    def test_a_letter_takes_over_a_thing(self):
        vault = Vault(PLAIN, BOXES)
        vault["a"] = B
        self.assertEqual([1, 1, 2, 3], [vault[box] for box in BOXES])
        vault["a"] = letter("a")
        vault["b"] = letter("t")
        self.assertEqual(([1, 3, 2, 3], 4), ([vault[box] for box in BOXES], vault.beginning.size))
        self.assertEqual((("a", "b"), ("a", "a"), ("b", "t")), vault.log)

    def test_left_ahead_of_right_ahead_of_the_operation(self):
        vault = Vault(PLAIN, ("a", "b"))
        vault["a"] = (A * B) // (B >> A)
        self.assertEqual(((0, 1, 2), (1, 3, 0), (4, 3, 2)), vault.beginning.triples)
        self.assertEqual((4, 5), (vault["a"], vault.beginning.size))

    def test_the_box_itself_is_read_before_it_is_set(self):
        vault = Vault(PLAIN, ("a", "b"))
        vault["a"] = A * B
        vault["a"] = A * B
        self.assertEqual(((0, 1, 2), (2, 1, 3)), vault.beginning.triples)
        vault["a"] = (A // B) // B
        self.assertEqual((0, 4), (vault["a"], vault.beginning.size))

    def test_at_most_forty_things(self):
        source = random.Random(124)
        for kind in KINDS:
            refused = 0
            for _ in range(6):
                vault, plain = Vault(kind, BOXES), Plain(kind, BOXES)
                for _ in range(60):
                    box, tree = source.choice(BOXES), slow.random_tree(source, BOXES, source.choice((0, 3, 5, 8)))
                    held = plain.size, set(plain.triples), dict(plain.boxes)
                    plain.set(box, tree)
                    if plain.size <= 40:
                        vault[box] = slow.made_of(tree)
                    else:
                        before = picture(vault)
                        assert_error(self, TooMany, "limit", 40, lambda: vault.__setitem__(box, slow.made_of(tree)))
                        self.assertEqual(before, picture(vault))
                        plain.size, plain.triples, plain.boxes = held
                        refused += 1
                    self.assertEqual(plain.boxes, {name: vault[name] for name in vault})
                    self.assertEqual((plain.size, tuple(sorted(plain.triples))),
                                     (vault.beginning.size, vault.beginning.triples))
            self.assertGreater(refused, 5)

    def test_just_forty_things(self):
        vault = Vault(PLAIN, ("a", "b", "s", "t", "u", "v"))
        eight = letter("v")
        for _ in range(8):
            eight = eight * letter("u")
        for box in ("a", "b", "s", "t"):
            vault[box] = eight.put("v", letter(box))
        self.assertEqual(38, vault.beginning.size)
        before = picture(vault)
        assert_error(self, TooMany, "limit", 40, lambda: vault.__setitem__("a", (A * A) * (B * A)))
        self.assertEqual(before, picture(vault))
        vault["a"] = (A * A) * A
        self.assertEqual((39, 40), (vault["a"], vault.beginning.size))
        vault["a"] = letter("u")
        self.assertEqual((vault["u"], 40), (vault["a"], vault.beginning.size))

    def test_wrong_boxes_formulas_and_letters_in_order(self):
        vault = Vault(SIDES, BOXES)
        vault["s"] = A * B
        before = picture(vault)
        for box in NO_BOXES:
            for formula in (A, None, C):
                assert_error(self, UnknownName, "given", box, lambda: vault.__setitem__(box, formula))
        for formula in NO_FORMULAS:
            assert_error(self, NotAFormula, "given", formula, lambda: vault.__setitem__("a", formula))
        for text, name in (("c", "c"), ("(a * c)", "c"), ("(z * (c * a))", "c"), ("((z // y) * a)", "y"),
                           ("(a1 * (a * b))", "a1"), ("(t * aa)", "aa")):
            assert_error(self, UnknownName, "given", name, lambda: vault.__setitem__("a", Formula.read(text)))
        self.assertEqual(before, picture(vault))

    def test_wrong_letters_ahead_of_too_many_things(self):
        vault = Vault(PLAIN, ("a", "b"))
        for _ in range(38):
            vault["a"] = A * B
        self.assertEqual(40, vault.beginning.size)
        assert_error(self, UnknownName, "given", "c", lambda: vault.__setitem__("a", (A * B) * C))
        assert_error(self, TooMany, "limit", 40, lambda: vault.__setitem__("a", A * B))


class AskingTest(unittest.TestCase):
    def test_no_box(self):
        vault = Vault(PLAIN, BOXES)
        for name in NO_BOXES:
            with self.subTest(name):
                self.assertIs(False, name in vault)
                assert_error(self, UnknownName, "given", name, lambda: vault[name])
                assert_error(self, UnknownName, "given", name, lambda: vault.same(name, "a"))
                assert_error(self, UnknownName, "given", name, lambda: vault.same("a", name))
                assert_error(self, UnknownName, "given", name, lambda: vault.same(name, "x"))
                assert_error(self, UnknownName, "given", name, lambda: vault.same(other=name, one="b"))

    def test_iterating(self):
        vault = Vault(PLAIN, ("t", "a", "s"))
        found = []
        for box in vault:
            vault[box] = A
            found.append(box)
        self.assertEqual(["t", "a", "s"], found)
        first, second = iter(vault), iter(vault)
        self.assertEqual(["t", "t", "a"], [next(first), next(second), next(first)])
        self.assertEqual(("t", "a", "s"), tuple(vault))


class UndoTest(unittest.TestCase):
    def test_settings_taken_back(self):
        source = random.Random(123)
        for kind in KINDS:
            vault = Vault(kind, BOXES)
            pictures = [picture(vault)]
            for _ in range(60):
                if source.random() < 0.6:
                    tree = slow.random_tree(source, BOXES, source.randint(0, 3))
                    try:
                        vault[source.choice(BOXES)] = slow.made_of(tree)
                    except TooMany:
                        pass
                    else:
                        pictures.append(picture(vault))
                elif len(pictures) > 1:
                    pictures.pop()
                    self.assertIsNone(vault.undo())
                self.assertEqual(pictures[-1], picture(vault))
            while len(pictures) > 1:
                pictures.pop()
                vault.undo()
                self.assertEqual(pictures[-1], picture(vault))
            with self.assertRaises(NothingToUndo):
                vault.undo()
            self.assertEqual(pictures[0], picture(vault))

    def test_nothing_to_undo(self):
        vault = Vault(PLAIN, BOXES)
        with self.assertRaises(NothingToUndo) as caught:
            vault.undo()
        self.assertEqual({}, vars(caught.exception))
        vault["a"] = A
        vault.undo()
        with self.assertRaises(NothingToUndo):
            vault.undo()

    def test_settings_that_change_nothing_are_taken_back_too(self):
        vault = Vault(PLAIN, BOXES)
        vault["a"] = A * B
        vault["b"] = B
        vault["b"] = B
        vault.undo()
        self.assertEqual((("a", "(a * b)"), ("b", "b")), vault.log)


class TrialTest(unittest.TestCase):
    def test_all_is_as_it_was(self):
        vault = Vault(SIDES, BOXES)
        vault["s"] = A * B
        before = picture(vault)
        with vault.trial() as tried:
            self.assertIs(vault, tried)
            self.assertEqual(before, picture(vault))
            vault["t"] = B * A
            vault["a"] = letter("s") * letter("t")
            vault["a"] = A * A
            self.assertEqual(4, len(vault.log))
            self.assertTrue(vault.same("s", "t"))
        self.assertEqual(before, picture(vault))
        self.assertEqual((("s", "(a * b)"),), vault.log)

    def test_an_exception_is_passed_on(self):
        vault = Vault(PLAIN, BOXES)
        vault["s"] = A * B
        before = picture(vault)
        wrong = ValueError("wrong")
        with self.assertRaises(ValueError) as caught:
            with vault.trial():
                vault["a"] = A * B
                raise wrong
        self.assertIs(wrong, caught.exception)
        self.assertEqual(before, picture(vault))
        with self.assertRaises(UnknownName):
            with vault.trial():
                vault["a"] = A * B
                vault["c"] = A
        self.assertEqual(before, picture(vault))

    def test_left_by_return_and_by_break(self):
        vault = Vault(PLAIN, BOXES)
        before = picture(vault)

        def left():
            with vault.trial():
                vault["a"] = A * B
                return vault["a"]

        self.assertEqual(4, left())
        self.assertEqual(before, picture(vault))
        for _ in range(3):
            with vault.trial():
                vault["a"] = A * B
                break
        self.assertEqual(before, picture(vault))

    def test_settings_from_before_are_taken_back_in_a_trial(self):
        vault = Vault(PLAIN, BOXES)
        vault["s"] = A * B
        vault["t"] = A * B
        before = picture(vault)
        with vault.trial():
            vault.undo()
            vault.undo()
            self.assertEqual((), vault.log)
            with self.assertRaises(NothingToUndo):
                vault.undo()
            vault["a"] = B
        self.assertEqual(before, picture(vault))
        vault.undo()
        self.assertEqual((("s", "(a * b)"),), vault.log)

    def test_trials_within_trials(self):
        vault = Vault(Kind("all", calm=True), BOXES)
        pictures = [picture(vault)]
        with vault.trial():
            vault["a"] = A * B
            pictures.append(picture(vault))
            with vault.trial() as inner:
                inner["b"] = A * B
                pictures.append(picture(vault))
                with self.assertRaises(KeyError):
                    with vault.trial():
                        vault["a"] = B
                        vault.undo()
                        vault.undo()
                        raise KeyError()
                self.assertEqual(pictures.pop(), picture(vault))
            self.assertEqual(pictures.pop(), picture(vault))
        self.assertEqual(pictures.pop(), picture(vault))

    def test_as_it_was_when_the_rows_began(self):
        vault = Vault(PLAIN, BOXES)
        trial = vault.trial()
        vault["a"] = A * B
        before = picture(vault)
        with trial:
            vault["b"] = A
        self.assertEqual(before, picture(vault))
        self.assertIsNot(vault.trial(), vault.trial())

    def test_tried(self):
        vault = Vault(PLAIN, BOXES)
        before = picture(vault)

        def action(tried):
            self.assertIs(vault, tried)
            tried["a"] = A * B
            return tried.tried(lambda again: (again.__setitem__("b", A), again["b"])), tried["b"]

        for found in (vault.tried(action), vault.tried(action=action)):
            self.assertEqual(((None, 4), 1), found)
        self.assertEqual(before, picture(vault))
        with self.assertRaises(ZeroDivisionError):
            vault.tried(lambda tried: (tried.__setitem__("a", B), 1 // 0))
        self.assertEqual(before, picture(vault))


class PlaceTest(unittest.TestCase):
    def test_everything_stands_in_its_class_and_file(self):
        self.assertEqual("thirdback.vaults", module.Vault.__module__)
        for name in ("__setitem__", "__getitem__", "same", "__iter__", "__len__", "__contains__", "beginning", "log",
                     "undo", "trial", "tried", "__eq__"):
            self.assertIn(name, vars(Vault))

    def test_example_of_the_document(self):
        vault = Vault(SIDES, ("a", "b", "s", "t"))
        vault["s"] = A * B
        vault["t"] = B * A
        self.assertEqual([4, True, ((0, 1, 4), (1, 0, 4))], [vault["s"], vault.same("s", "t"), vault.beginning.triples])
        vault["t"] = letter("s") // A
        self.assertEqual([1, 5, ("t", "(s // a)"), None, 4], [
            vault["t"], vault.beginning.size, vault.log[-1], vault.undo(), vault["t"]])


if __name__ == "__main__":
    unittest.main()
