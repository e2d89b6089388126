"""The mends of thirdback.mends (points 2 to 5 and 14)."""

import itertools
import random
import unittest

import slow
from common import (
    A, B, C, KINDS, NO_FORMULAS, NO_TUPLES, ODD_VALUES, WRONG_FORMULAS, assert_error, assert_errors_in_order, given,
    indexed)
from thirdback import mends as module
from thirdback.errors import InvalidChanges, InvalidFormulas, InvalidNumber, NotAStore, TooMany
from thirdback.formulas import letter
from thirdback.kinds import Kind
from thirdback.mends import mends
from thirdback.stores import Store, strength

PLAIN = Kind("plain")
BARE = Store(PLAIN, (("x", A), ("y", B)))
CHANGES = (("s", A * B), ("t", A >> B), ("x", A * B))
SIX = (("s", A * B), ("t", A >> B), ("x", B * A), ("u", B // A), ("y", A * A), ("v", B))


def plain_strength(kind, boxes, facts, wanted):
    """The strength, looked for among all sets of boxes in the words of point 14."""
    best = -1
    for many in range(len(boxes)):
        for lost in itertools.combinations(sorted(boxes), many):
            kept = [boxes[name] for name in boxes if name not in lost]
            if not all(slow.got(kind, facts, kept, tree) for tree in wanted):
                return best
        best = many
    return best


def random_questions(seed, count):
    """For each kind so many stores with wanted formulas and changes, all formulas as trees."""
    source = random.Random(seed)
    for kind in KINDS:
        for _ in range(count):
            def tree(*sizes):
                return slow.random_tree(source, "abc"[:2 + (source.random() < 0.3)], source.choice(sizes))

            names = source.sample(("x", "y", "s", "t", "a"), source.randint(1, 3))
            boxes = {name: tree(0, 0, 1) for name in names}
            facts = ((tree(1), tree(0, 1)),) if source.random() < 0.2 else ()
            wanted = tuple([tree(0, 0, 1) for _ in range(source.randint(1, 2))])
            changed = source.sample(names + ["u", "v", "w"], source.randint(0, 4))
            yield kind, boxes, facts, wanted, tuple([(name, tree(0, 1, 1, 2)) for name in changed])


def plain_mends(kind, boxes, facts, wanted, changes):
    """For each number the least sets of changes that lift the store to it, in the order of the interface."""
    strengths = {}
    for many in range(len(changes) + 1):
        for chosen in itertools.combinations(range(len(changes)), many):
            changed = {**boxes, **{changes[at][0]: changes[at][1] for at in chosen}}
            strengths[chosen] = plain_strength(kind, changed, facts, wanted)
    found = []
    for number in range(8):
        lifting = [chosen for chosen in strengths if strengths[chosen] >= number]
        found.append(tuple([one for one in lifting if not any(set(other) < set(one) for other in lifting)]))
    return found


class MendsTest(unittest.TestCase):
    def test_as_by_the_definitions(self):
        sizes, weaker = set(), 0
        for kind, boxes, facts, wanted, changes in random_questions(90, 12):
            store = Store(kind, tuple([(name, slow.made_of(tree)) for name, tree in boxes.items()]),
                          facts=slow.made_facts(facts))
            formulas = tuple([slow.made_of(tree) for tree in wanted])
            passed = tuple([(name, slow.made_of(tree)) for name, tree in changes])
            expected = plain_mends(kind, boxes, facts, wanted, changes)
            for number in (0, 1, 2, 7):
                with self.subTest(str(kind), boxes=boxes, facts=facts, wanted=wanted, changes=changes, number=number):
                    self.assertEqual(expected[number], mends(store, formulas, passed, number))
                    self.assertEqual(expected[number], mends(
                        number=number, changes=passed, wanted=formulas, store=store))
                sizes.update([len(chosen) for chosen in expected[number]])
                everything = tuple(range(len(changes)))
                weaker += expected[number] != () and strength(mended(store, passed, everything), formulas) < number
        self.assertTrue({0, 1, 2} <= sizes)
        self.assertGreater(weaker, 10)

    def test_written_out(self):
        wanted = (A, B)
        self.assertEqual(((0,), (1,)), mends(BARE, wanted, CHANGES, 1))
        self.assertEqual((), mends(BARE, wanted, CHANGES, 7))
        self.assertEqual((), mends(BARE, wanted, (), 1))
        self.assertEqual(((),), mends(BARE, wanted, (), 0))
        self.assertEqual(((),), mends(BARE, wanted, SIX, 0))
        one = Store(PLAIN, (("x", A),))
        copies = (("s", A), ("t", B), ("u", A), ("v", A))
        self.assertEqual(((0,), (2,), (3,)), mends(one, (A,), copies, 1))
        self.assertEqual(((0, 2), (0, 3), (2, 3)), mends(one, (A,), copies, 2))
        self.assertEqual(((0, 2, 3),), mends(one, (A,), copies, 3))
        self.assertEqual(((1,),), mends(one, (A, B), copies, 0))

    def test_smaller_sets_come_first(self):
        store = Store(PLAIN, (("x", A),))
        changes = (("s", A * B), ("t", A), ("u", B), ("x", B))
        self.assertEqual(((1,), (0, 2)), mends(store, (A,), changes, 1))

    def test_a_change_can_be_the_wrong_one(self):
        changes = (("s", A * B), ("y", C))
        self.assertEqual(((0,),), mends(BARE, (A, B), changes, 1))
        self.assertEqual([1, 0], [strength(mended(BARE, changes, chosen), (A, B)) for chosen in ((0,), (0, 1))])
        self.assertEqual(((),), mends(BARE, (A,), (("x", B), ("s", A)), 0))

    def test_six_changes_and_eight_boxes(self):
        store = Store(PLAIN, (("x", A), ("y", B), ("a", A), ("b", B)))
        self.assertEqual(((),), mends(store, (A, B), SIX, 0))
        found = mends(store, (A, B), SIX, 3)
        self.assertTrue(found)
        for chosen in found:
            self.assertGreaterEqual(strength(mended(store, SIX, chosen), (A, B)), 3)
        copies = Store(PLAIN, tuple([(f"b{at}", A) for at in range(2)]))
        more = tuple([(f"c{at}", A) for at in range(6)])
        self.assertEqual((tuple(range(6)),), mends(copies, (A,), more, 7))
        self.assertEqual(20, len(mends(copies, (A,), more, 4)))
        self.assertEqual((0, 1, 2), mends(copies, (A,), more, 4)[0])

    def test_wrong_arguments_in_order(self):
        no_pairs = NO_FORMULAS + (("x",), ("x", A, B), ["x", A], ("X", A), (A, "x"), ("x", "a"), ("x", None), ("", A),
                                  (None, A), (["x"], A), ("abcdefghi", A), ("x y", A), ("x", (A,)), (A, A), ({}, A))
        rows = [(value, None) for value in NO_TUPLES + ([("x", A)], {"x": A}, A)]
        rows += [((value,), 0) for value in no_pairs]
        rows += [(SIX[:at] + (value,) + SIX[at:5], at) for at in range(6) for value in no_pairs[::4]]
        rows += [(SIX[:at] + (SIX[0],) + SIX[at:5], at) for at in range(1, 6)]
        rows += [(SIX + (("w", A),), 6), (SIX + (None,), 6), (SIX + SIX, 6), (SIX[:5] + (SIX[0], ("w", A)), 5)]
        no_numbers = [value for value in ODD_VALUES if isinstance(value, bool) or value not in (0, 1, 7)] + [
            -1, 8, "1", (1,), A]
        full = Store(PLAIN, tuple([(f"b{at}", A) for at in range(2)]))
        assert_errors_in_order(self, mends, {"store": full, "wanted": (A, B, C) * 2, "changes": SIX, "number": 7}, {
            "store": given(NotAStore, ODD_VALUES + (A, PLAIN, full.boxes, Store, (full,))),
            "wanted": WRONG_FORMULAS + indexed(InvalidFormulas, [((), None)]),
            "changes": indexed(InvalidChanges, rows), "number": given(InvalidNumber, no_numbers)})

    def test_too_many_boxes_come_last(self):
        seven = Store(PLAIN, tuple([(name, letter(name)) for name in "gfedcba"]))
        changes = (("a", B), ("x", A), ("b", A))
        self.assertEqual(((),), mends(seven, (A,), changes, 0))
        for more in ((("x", A), ("y", A)), (("x", A), ("a", A), ("y", B)), (("a", A), ("x", A), ("y", B), ("z", A))):
            for number in (0, 7):
                assert_error(self, TooMany, "limit", 8, lambda: mends(seven, (A,), more, number))
            assert_error(self, InvalidNumber, "given", 8, lambda: mends(seven, (A,), more, 8))
            assert_error(self, InvalidChanges, "index", len(more), lambda: mends(seven, (A,), more + (None,), 8))

    def test_nothing_is_changed(self):
        mends(BARE, (A, B), CHANGES, 1)
        self.assertEqual((("x", A), ("y", B)), BARE.boxes)
        self.assertEqual(mends(BARE, (A, B), CHANGES, 1), mends(BARE, (A, B), CHANGES, 1))

    def test_example_of_the_document(self):
        self.assertEqual([0, ((0,), (1,)), (), ((),)], [
            strength(BARE, (A, B)), mends(BARE, (A, B), CHANGES, 1), mends(BARE, (A, B), CHANGES, 2),
            mends(BARE, (A, B), CHANGES, 0)])
        self.assertEqual("thirdback.mends", module.mends.__module__)


def mended(store, changes, chosen):
    """The store with the chosen changes."""
    for at in chosen:
        store = store.changed(*changes[at])
    return store


if __name__ == "__main__":
    unittest.main()
