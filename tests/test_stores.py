"""The stores of thirdback.stores (points 2 to 5 and 14)."""

import itertools
import random
import unittest

import slow
from common import (
    A, B, C, EQUAL_TO_ALL, KINDS, NO_FORMULAS, NO_NAMES, NO_TUPLES, ODD_VALUES, WRONG_FACTS, WRONG_FORMULA,
    WRONG_FORMULAS, WRONG_KINDS, assert_error, assert_errors_in_order, given, indexed)
from thirdback import stores as module
from thirdback.errors import (
    InvalidBoxes, InvalidFormulas, InvalidName, InvalidNames, NotAStore, TooMany, UnknownName)
from thirdback.formulas import letter
from thirdback.kinds import Kind
from thirdback.stores import Store, least_keeps, least_losses, restorable, strength

PLAIN = Kind("plain")
BOXES = (("x", A), ("y", B), ("s", A * B), ("t", A * (A * B)))
STORE = Store(PLAIN, BOXES)
EIGHT = Store(PLAIN, tuple([(name, letter(name)) for name in "hgfedcba"]), facts=((A, B * C),))
NO_STORES = ODD_VALUES + (A, PLAIN, BOXES, Store, ("x", "y"), (STORE,))

WRONG_WANTED = WRONG_FORMULAS + indexed(InvalidFormulas, [((), None)])


def random_stores(seed, count):
    """For each kind so many stores, with the trees of their boxes, of their facts and of wanted formulas."""
    source = random.Random(seed)
    for kind in KINDS:
        for _ in range(count):
            letters = "abc"[:source.randint(2, 3)]

            def tree(*sizes):
                return slow.random_tree(source, letters, source.choice(sizes))

            names = source.sample(("x", "y", "s", "t", "a", "u0", "abcdefgh"), source.randint(1, 6))
            boxes = tuple([(name, tree(0, 0, 1, 1, 2)) for name in names])
            facts = tuple([(tree(1), tree(0, 1)) for _ in range(source.choice((0, 0, 0, 1)))])
            wanted = tuple([tree(0, 0, 1) for _ in range(source.randint(1, 2))])
            yield kind, boxes, facts, wanted


def made(kind, boxes, facts):
    """The program's store."""
    return Store(kind, tuple([(name, slow.made_of(tree)) for name, tree in boxes]), facts=slow.made_facts(facts))


def all_sets(boxes):
    """All sets of indexes of the boxes, smaller ones first."""
    return [chosen for many in range(len(boxes) + 1) for chosen in itertools.combinations(range(len(boxes)), many)]


def least(boxes, family):
    """The names of those sets in the family that have no proper part in it, in the order of the interface."""
    return tuple([tuple([boxes[at][0] for at in one]) for one in family
                  if not any(set(other) < set(one) for other in family)])


class MakingTest(unittest.TestCase):
    def test_what_it_holds(self):
        for kind in KINDS:
            for facts in ((), ((A, B),), ((A, B), (B, C), (A * B, C), (A, A))):
                for store in (Store(kind, BOXES, facts=facts), Store(facts=facts, boxes=BOXES, kind=kind)):
                    self.assertIs(Store, store.__class__)
                    self.assertEqual((kind, BOXES, facts), (store.kind, store.boxes, store.facts))
                    self.assertEqual((("x", "y", "s", "t"), 4), (store.names, len(store)))
                    self.assertEqual(["x", "y", "s", "t"], list(store))
                    self.assertEqual(list(BOXES), [(name, store[name]) for name in store])
                    self.assertTrue(store)
            self.assertEqual((), Store(kind, BOXES).facts)

    def test_one_to_eight_boxes(self):
        for count in range(1, 9):
            boxes = tuple([(f"b{number}", A) for number in range(count, 0, -1)])
            store = Store(PLAIN, boxes)
            self.assertEqual((count, boxes), (len(store), store.boxes))
            self.assertEqual(tuple([name for name, _ in boxes]), store.names)
            self.assertEqual(list(store.names), list(store))

    def test_wrong_arguments_in_order(self):
        no_boxes = NO_FORMULAS + (("x",), ("x", A, B), ["x", A], ("X", A), (A, "x"), ("x", "a"), ("x", None), ("", A),
                                  (None, A), (["x"], A), ("abcdefghi", A), ("x y", A), ("x", (A,)), (A, A), ({}, A))
        eight = EIGHT.boxes
        rows = [(value, None) for value in NO_TUPLES + ((), [("x", A)], {"x": A}, A)]
        rows += [((value,), 0) for value in no_boxes]
        rows += [(eight[:at] + (value,) + eight[at:7], at) for at in range(8) for value in no_boxes[::5]]
        rows += [(eight[:at] + (eight[0],) + eight[at:7], at) for at in range(1, 8)]
        rows += [(eight + (("x", A),), 8), (eight + (eight[0],), 8), (eight + (None,), 8), (eight + eight, 8),
                 (eight[:7] + (eight[2], ("x", A)), 7), ((("x", A), ("x", B)), 1), ((("x", A), ("y", 1), 2), 1)]
        assert_errors_in_order(
            self, Store, {"kind": PLAIN, "boxes": eight, "facts": ((A, B),) * 4},
            {"kind": WRONG_KINDS, "boxes": indexed(InvalidBoxes, rows), "facts": WRONG_FACTS}, names=("facts",))

    def test_never_changes(self):
        for name in ("kind", "boxes", "facts", "names"):
            with self.subTest(name), self.assertRaises(AttributeError):
                setattr(STORE, name, ())
        with self.assertRaises(TypeError):
            STORE["x"] = A
        self.assertEqual(BOXES, STORE.boxes)


class AskingTest(unittest.TestCase):
    def test_boxes_by_name(self):
        for name, formula in BOXES:
            self.assertEqual(formula, STORE[name])
            self.assertIs(True, name in STORE)

    def test_no_such_box(self):
        for name in ODD_VALUES + NO_NAMES + ("z", "a", "X", "xy", "x ", BOXES[0], ("x",), STORE, EQUAL_TO_ALL):
            with self.subTest(name):
                self.assertIs(False, name in STORE)
                assert_error(self, UnknownName, "given", name, lambda: STORE[name])

    def test_equality(self):
        found = [Store(kind, boxes, facts=facts) for kind in (KINDS[0], KINDS[1], KINDS[6])
                 for boxes in (BOXES, BOXES[:3], BOXES[::-1], (("x", B),) + BOXES[1:], (("z", A),) + BOXES[1:])
                 for facts in ((), ((A, B),), ((B, A),), ((A, B), (A, B)))]
        for i, one in enumerate(found):
            for j, other in enumerate(found):
                again = Store(Kind.read(str(other.kind)), tuple(list(other.boxes)), facts=tuple(list(other.facts)))
                self.assertIs(i == j, one == again)
                self.assertIs(i != j, one != again)

    def test_never_equal_to_a_value_of_another_class(self):
        for value in NO_STORES + (STORE.names, STORE.boxes, dict(BOXES)):
            with self.subTest(value):
                self.assertIs(False, STORE == value)
                self.assertIs(False, value == STORE)
                self.assertIs(True, STORE != value)


class ChangedTest(unittest.TestCase):
    def test_a_new_formula_in_its_place(self):
        for at, (name, _) in enumerate(BOXES):
            for formula in (C, A * B):
                for store in (STORE, Store(KINDS[7], BOXES, facts=((A, B),))):
                    changed = store.changed(name, formula)
                    expected = BOXES[:at] + ((name, formula),) + BOXES[at + 1:]
                    self.assertEqual(Store(store.kind, expected, facts=store.facts), changed)
                    self.assertEqual(changed, store.changed(formula=formula, name=name))
                    self.assertEqual(BOXES, store.boxes)
        self.assertEqual(STORE, STORE.changed("s", A * B))

    def test_a_new_box_behind_the_others(self):
        store = STORE.changed("a", C)
        self.assertEqual((BOXES + (("a", C),), 4), (store.boxes, len(STORE)))
        self.assertEqual(("x", "y", "s", "t", "a"), store.names)

    def test_at_most_eight_boxes(self):
        seven = Store(PLAIN, EIGHT.boxes[:7], facts=EIGHT.facts)
        self.assertEqual(EIGHT, seven.changed("a", A))
        assert_error(self, TooMany, "limit", 8, lambda: EIGHT.changed("x", A))
        self.assertEqual(EIGHT.names, EIGHT.changed("a", B).names)
        self.assertEqual(B, EIGHT.changed("a", B)["a"])

    def test_wrong_arguments_in_order(self):
        assert_errors_in_order(self, EIGHT.changed, {"name": "c", "formula": B}, {
            "name": given(InvalidName, NO_NAMES), "formula": WRONG_FORMULA})
        assert_error(self, InvalidName, "given", "X", lambda: EIGHT.changed("X", A))
        assert_error(self, WRONG_FORMULA[0][1], "given", "a", lambda: EIGHT.changed("x", "a"))


class RestorableTest(unittest.TestCase):
    def test_as_in_a_plain_closed_table(self):
        found = 0
        for kind, boxes, facts, _ in random_stores(40, 10):
            store = made(kind, boxes, facts)
            for chosen in all_sets(boxes):
                kept = [boxes[at][1] for at in chosen]
                names = tuple([boxes[at][0] for at in chosen])
                expected = tuple([name for name, tree in boxes if slow.got(kind, facts, kept, tree)])
                with self.subTest(str(kind), boxes=boxes, facts=facts, names=names):
                    self.assertEqual(expected, restorable(store, names))
                    self.assertEqual(expected, restorable(names=names[::-1], store=store))
                found += len(expected) > len(names)
        self.assertGreater(found, 100)

    def test_no_names_and_all(self):
        for store in (STORE, EIGHT):
            self.assertEqual((), restorable(store, ()))
            self.assertEqual(store.names, restorable(store, store.names))
            self.assertEqual(store.names, restorable(store, store.names[::-1]))

    def test_wrong_arguments_in_order(self):
        no_names = ODD_VALUES + ("z", "X", "", "xy", ("x",), ["x"], A, None, True, STORE, EQUAL_TO_ALL)
        right = ("t", "x", "s", "y")
        rows = [(value, None) for value in NO_TUPLES + (["x"], {"x": 1}, "x", STORE)]
        rows += [((value,), 0) for value in no_names]
        rows += [(right[:at] + (value,) + right[at:], at) for at in range(5) for value in no_names[::4]]
        rows += [(right[:at] + ("t",) + right[at:], at) for at in range(1, 5)]
        rows += [(right + ("x", "z"), 4), (("x", "z", "x"), 1), (("x", "x", 0), 1), (right + ("z",), 4)]
        assert_errors_in_order(self, restorable, {"store": STORE, "names": right}, {
            "store": given(NotAStore, NO_STORES), "names": indexed(InvalidNames, rows)})


class LeastTest(unittest.TestCase):
    def test_least_keeps_and_losses_and_strength(self):
        strengths = set()
        for kind, boxes, facts, wanted in random_stores(41, 14):
            store, formulas = made(kind, boxes, facts), tuple(map(slow.made_of, wanted))
            keeps = [chosen for chosen in all_sets(boxes) if all(
                slow.got(kind, facts, [boxes[at][1] for at in chosen], tree) for tree in wanted)]
            losses = [chosen for chosen in all_sets(boxes)
                      if tuple([at for at in range(len(boxes)) if at not in chosen]) not in keeps]
            strongest = max([number for number in range(-1, len(boxes)) if all(len(loss) > number for loss in losses)])
            with self.subTest(str(kind), boxes=boxes, facts=facts, wanted=wanted):
                self.assertEqual(least(boxes, keeps), least_keeps(store, formulas))
                self.assertEqual(least(boxes, losses), least_losses(store, formulas))
                self.assertEqual(strongest, strength(store, formulas))
                self.assertEqual(least_keeps(store, formulas), least_keeps(wanted=formulas, store=store))
                self.assertEqual(least_losses(store, formulas), least_losses(wanted=formulas, store=store))
                self.assertEqual(strongest, strength(wanted=formulas, store=store))
            strengths.add(strongest)
        self.assertTrue({-1, 0, 1, 2} <= strengths)

    def test_not_told_by_all_boxes(self):
        for kind in KINDS:
            store = Store(kind, BOXES)
            for wanted in ((C,), (A, C), (C, A * B), (B * C, A)):
                self.assertEqual(((), ((),), -1), (
                    least_keeps(store, wanted), least_losses(store, wanted), strength(store, wanted)))

    def test_eight_boxes(self):
        copies = Store(PLAIN, tuple([(f"b{number}", A) for number in range(8)]))
        names = copies.names
        self.assertEqual(tuple([(name,) for name in names]), least_keeps(copies, (A,) * 6))
        self.assertEqual((names,), least_losses(copies, (A,)))
        self.assertEqual(7, strength(copies, (A,)))
        self.assertEqual(("h", "g", "f", "e", "d", "c", "b", "a"), EIGHT.names)
        self.assertEqual((("c", "b"), ("c", "a"), ("b", "a")), least_keeps(EIGHT, (A, B, C)))
        self.assertEqual((("c", "b"), ("c", "a"), ("b", "a")), least_losses(EIGHT, (A, B, C)))
        self.assertEqual((("h",),), least_losses(EIGHT, (letter("h"),)))
        self.assertEqual((1, 0), (strength(EIGHT, (A,)), strength(EIGHT, (A, letter("h")))))
        self.assertEqual((("c", "b"), ("a",)), least_keeps(EIGHT, (A,))[::-1])

    def test_order_of_the_boxes_counts_and_not_their_names(self):
        store = Store(Kind("all"), (("z", A), ("m", B), ("a", A * B), ("b", C)))
        self.assertEqual((("z", "m"), ("z", "a"), ("m", "a")), least_keeps(store, (A, B)))
        self.assertEqual((("z", "m"), ("z", "a"), ("m", "a")), least_losses(store, (A, B)))
        self.assertEqual((("b",), ("z", "m"), ("z", "a"), ("m", "a")), least_losses(store, (A, B, C)))

    def test_wrong_arguments_in_order(self):
        for function in (least_keeps, least_losses, strength):
            for store in (STORE, EIGHT):
                assert_errors_in_order(self, function, {"store": store, "wanted": (A, B, C) * 2}, {
                    "store": given(NotAStore, NO_STORES), "wanted": WRONG_WANTED})


class PlaceTest(unittest.TestCase):
    def test_everything_stands_in_its_class_and_file(self):
        for name in ("Store", "restorable", "least_keeps", "least_losses", "strength"):
            self.assertEqual("thirdback.stores", getattr(module, name).__module__)
        for name in ("kind", "boxes", "facts", "names", "changed", "__getitem__", "__contains__", "__iter__", "__len__",
                     "__eq__"):
            self.assertIn(name, vars(Store))

    def test_example_of_the_document(self):
        self.assertEqual(
            [("x", "y", "s", "t"), (("x", "y"), ("x", "s"), ("x", "t"), ("y", "s"), ("s", "t")), 1],
            [restorable(STORE, ("s", "t")), least_keeps(STORE, (A, B)), strength(STORE, (A, B))])
        self.assertEqual(
            [(("x", "s"), ("x", "y", "t"), ("y", "s", "t")), 1, ["x", "y", "s", "t"]],
            [least_losses(STORE, (A, B)), strength(STORE.changed("t", C), (A, B)), list(STORE)])


if __name__ == "__main__":
    unittest.main()
