"""The kinds of thirdback.kinds: turns, images and the twelve kinds (points 3 to 7)."""

import itertools
import unittest

from common import MANY_DIGITS, ODD_VALUES, assert_error
from thirdback.errors import InvalidFlag, InvalidText, InvalidTriple, InvalidTurns, NotAKind
from thirdback.kinds import Kind

SAME, SIDES, FRONT, BACK = (0, 1, 2), (1, 0, 2), (2, 1, 0), (0, 2, 1)
ON, AGAIN = (1, 2, 0), (2, 0, 1)
LISTED = {
    "plain": (SAME,), "sides": (SAME, SIDES), "front": (SAME, FRONT), "back": (SAME, BACK),
    "round": (SAME, ON, AGAIN), "all": (SAME, BACK, SIDES, ON, AGAIN, FRONT),
}
TEXTS = list(LISTED) + ["calm " + turns for turns in LISTED]
KINDS = [Kind(turns, calm=calm) for calm in (False, True) for turns in LISTED]
NO_KINDS = ODD_VALUES + tuple(TEXTS) + (Kind, LISTED["all"], ["calm", "plain"])


def closed(turns):
    """All turns that come from these by doing one after the other."""
    turns = set(turns)
    while True:
        more = turns | {tuple(one[place] for place in other) for one in turns for other in turns}
        if more == turns:
            return tuple(sorted(turns))
        turns = more


def small_rules():
    """The triples of all rules with one to three things."""
    for size in (1, 2, 3):
        rows = list(itertools.permutations(range(size)))
        for table in itertools.product(rows, repeat=size):
            if all(len(set(column)) == size for column in zip(*table)):
                yield size, {(i, j, table[i][j]) for i in range(size) for j in range(size)}


def is_of(size, triples, kind):
    """Whether the rule with these triples is of the kind, in the words of point 7."""
    turned = {(t[i], t[j], t[k]) for t in triples for i, j, k in LISTED[kind.turns]}
    return turned <= triples and (not kind.calm or all((a, a, a) in triples for a in range(size)))


class MakingTest(unittest.TestCase):
    def test_the_twelve_kinds(self):
        for turns, lot in LISTED.items():
            for calm, text in ((False, turns), (True, "calm " + turns)):
                for kind in (Kind(turns, calm=calm), Kind(turns=turns, calm=calm), Kind(calm=calm, turns=turns),
                             Kind.read(text), Kind.read(text=text)):
                    with self.subTest(text):
                        self.assertIs(Kind, kind.__class__)
                        self.assertEqual(turns, kind.turns)
                        self.assertIs(calm, kind.calm)
                        self.assertEqual(lot, kind.lot)
                        self.assertEqual(text, str(kind))

    def test_lots_are_ascending_tuples(self):
        for kind in KINDS:
            self.assertIs(tuple, kind.lot.__class__)
            self.assertEqual(tuple(sorted(kind.lot)), kind.lot)
            self.assertEqual({tuple}, {turn.__class__ for turn in kind.lot})

    def test_not_calm_unless_asked_for(self):
        for turns in LISTED:
            self.assertIs(False, Kind(turns).calm)
            self.assertIs(False, Kind(turns=turns).calm)

    def test_calm_is_passed_by_name_alone(self):
        with self.assertRaises(TypeError):
            Kind("plain", True)

    def test_turns_must_be_the_name_of_a_lot(self):
        near = ("plain ", " plain", "PLAIN", "pla", "plainsides", "sides front", "plain\n", "calm",
                "calm plain", "turns")
        for turns in ODD_VALUES + near + (Kind, KINDS[0], LISTED["plain"], ["all"], {"all": 1}):
            with self.subTest(turns):
                assert_error(self, InvalidTurns, "given", turns, lambda: Kind(turns))
                assert_error(self, InvalidTurns, "given", turns, lambda: Kind(turns=turns, calm=True))

    def test_calm_must_be_true_or_false(self):
        for calm in ODD_VALUES + ("True", "calm", 2, [True], (False,), KINDS[0]):
            if calm is True or calm is False:
                continue
            with self.subTest(calm):
                assert_error(self, InvalidFlag, "given", calm, lambda: Kind("plain", calm=calm))
                assert_error(self, InvalidFlag, "given", calm, lambda: Kind(calm=calm, turns="all"))

    def test_turns_are_checked_ahead_of_calm(self):
        for turns in ("Round", [], 1, None):
            for calm in (1, 0, None, [], {}):
                assert_error(self, InvalidTurns, "given", turns, lambda: Kind(calm=calm, turns=turns))

    def test_read_takes_the_twelve_texts_alone(self):
        near = [change(text) for text in TEXTS for change in (
            str.upper, str.title, lambda text: text + " ", lambda text: " " + text, lambda text: text + "\n",
            lambda text: text.replace(" ", "  "), lambda text: text.replace(" ", ""), lambda text: text[:-1],
            lambda text: text + text, lambda text: "calm " + text, lambda text: text + " calm")]
        near = [text for text in near if text not in TEXTS] + ["calm", "calm ", "calm calm all", "\ncalm all"]
        self.assertGreater(len(near), 80)
        for text in ODD_VALUES + tuple(near) + (KINDS[0], Kind, ["plain"], ("calm", "plain"), {"plain": 1}):
            with self.subTest(text):
                assert_error(self, InvalidText, "given", text, lambda: Kind.read(text))
                assert_error(self, InvalidText, "given", text, lambda: Kind.read(text=text))

    def test_kinds_never_change(self):
        kind = Kind("back", calm=True)
        for name, value in (("turns", "all"), ("calm", False), ("lot", ())):
            with self.subTest(name), self.assertRaises(AttributeError):
                setattr(kind, name, value)
        self.assertEqual("calm back", str(kind))

    def test_kinds_are_true(self):
        self.assertTrue(all(KINDS))

    def test_methods_stand_in_the_class_and_the_class_in_its_file(self):
        self.assertEqual("thirdback.kinds", Kind.__module__)
        for name in ("read", "turns", "calm", "lot", "images", "within", "__and__", "__or__", "__str__", "__eq__"):
            self.assertIn(name, vars(Kind))


class EqualityTest(unittest.TestCase):
    def test_equal_to_itself_alone_among_the_twelve(self):
        for i, one in enumerate(KINDS):
            for j, text in enumerate(TEXTS):
                other = Kind.read(text)
                with self.subTest(str(one), other=text):
                    self.assertIs(i == j, one == other)
                    self.assertIs(i != j, one != other)

    def test_never_equal_to_a_value_of_another_class(self):
        for kind in KINDS:
            for value in NO_KINDS + (kind.lot, (kind.turns, kind.calm), [kind]):
                with self.subTest(str(kind), value=value):
                    self.assertIs(False, kind == value)
                    self.assertIs(False, value == kind)
                    self.assertIs(True, kind != value)
                    self.assertIs(True, value != kind)


class ImagesTest(unittest.TestCase):
    def test_written_out(self):
        for turns, triple, images in (
            ("plain", (7, 3, 5), ((7, 3, 5),)),
            ("sides", (7, 3, 5), ((3, 7, 5), (7, 3, 5))),
            ("front", (7, 3, 5), ((5, 3, 7), (7, 3, 5))),
            ("back", (7, 3, 5), ((7, 3, 5), (7, 5, 3))),
            ("round", (7, 3, 5), ((3, 5, 7), (5, 7, 3), (7, 3, 5))),
            ("all", (7, 3, 5), ((3, 5, 7), (3, 7, 5), (5, 3, 7), (5, 7, 3), (7, 3, 5), (7, 5, 3))),
            ("all", (4, 4, -1), ((-1, 4, 4), (4, -1, 4), (4, 4, -1))),
            ("sides", (4, 4, -1), ((4, 4, -1),)),
            ("back", (-1, -2, -1), ((-1, -2, -1), (-1, -1, -2))),
            ("round", (-2, -2, -2), ((-2, -2, -2),)),
            ("front", (MANY_DIGITS, 0, -1), ((-1, 0, MANY_DIGITS), (MANY_DIGITS, 0, -1))),
        ):
            images = tuple(sorted(images))
            for calm in (False, True):
                with self.subTest(turns, triple=triple, calm=calm):
                    self.assertEqual(images, Kind(turns, calm=calm).images(triple))
                    self.assertEqual(images, Kind(turns, calm=calm).images(triple=triple))

    def test_all_different_images_ascending(self):
        numbers = (0, 1, 5, -1, -2, 600, MANY_DIGITS, -MANY_DIGITS)
        for kind in KINDS:
            for t in itertools.product(numbers, repeat=3):
                expected = sorted({(t[i], t[j], t[k]) for i, j, k in LISTED[kind.turns]})
                found = kind.images(t)
                self.assertEqual(tuple(expected), found)
                self.assertIs(tuple, found.__class__)

    def test_anything_but_three_integers_is_invalid(self):
        no_integers = (True, False, "0", "a", None, (0,), [0], {}, b"0", KINDS[0])
        bad = [(0, 1), (0, 1, 2, 3), ((0, 1, 2),), [0, 1, 2], [(0, 1, 2)], "012", b"012", (0, (1, 2)),
               {0: 0, 1: 1, 2: 2}]
        for value in no_integers:
            bad += [(value, 1, 2), (0, value, 2), (0, 1, value), (value, value, value)]
        bad += [value for value in ODD_VALUES if value != (0, 1, 2) or not isinstance(value, tuple)]
        for kind in KINDS:
            for triple in bad:
                with self.subTest(str(kind), triple=triple):
                    assert_error(self, InvalidTriple, "given", triple, lambda: kind.images(triple))
                    assert_error(self, InvalidTriple, "given", triple, lambda: kind.images(triple=triple))


class OrderTest(unittest.TestCase):
    def test_within_for_all_pairs(self):
        for one, other in itertools.product(KINDS, repeat=2):
            expected = set(LISTED[other.turns]) <= set(LISTED[one.turns]) and one.calm >= other.calm
            with self.subTest(str(one), other=str(other)):
                self.assertIs(expected, one.within(other))
                self.assertIs(expected, one.within(other=other))

    def test_and_for_all_pairs(self):
        for one, other in itertools.product(KINDS, repeat=2):
            with self.subTest(str(one), other=str(other)):
                both = one & other
                self.assertIs(Kind, both.__class__)
                self.assertEqual(closed(LISTED[one.turns] + LISTED[other.turns]), LISTED[both.turns])
                self.assertIs(one.calm or other.calm, both.calm)

    def test_or_for_all_pairs(self):
        for one, other in itertools.product(KINDS, repeat=2):
            with self.subTest(str(one), other=str(other)):
                either = one | other
                self.assertIs(Kind, either.__class__)
                self.assertEqual(set(LISTED[one.turns]) & set(LISTED[other.turns]), set(LISTED[either.turns]))
                self.assertIs(one.calm and other.calm, either.calm)

    def test_the_rules_of_both_kinds_are_those_of_one_kind(self):
        rules = list(small_rules())
        self.assertEqual(1 + 2 + 12, len(rules))
        for one, other in itertools.product(KINDS, repeat=2):
            for size, triples in rules:
                of_one, of_other = is_of(size, triples, one), is_of(size, triples, other)
                self.assertIs(of_one and of_other, is_of(size, triples, one & other))
                if of_one or of_other:
                    self.assertTrue(is_of(size, triples, one | other))
                if of_one and one.within(other):
                    self.assertTrue(of_other)

    def test_in_place_signs_make_new_kinds(self):
        kind = first = Kind("sides")
        kind &= Kind("back", calm=True)
        self.assertEqual(["calm all", "sides"], [str(kind), str(first)])
        kind |= Kind("round")
        self.assertEqual("round", str(kind))

    def test_other_must_be_a_kind(self):
        for kind in KINDS:
            for other in NO_KINDS:
                with self.subTest(str(kind), other=other):
                    assert_error(self, NotAKind, "given", other, lambda: kind.within(other))
                    assert_error(self, NotAKind, "given", other, lambda: kind.within(other=other))
                    assert_error(self, NotAKind, "given", other, lambda: kind & other)
                    assert_error(self, NotAKind, "given", other, lambda: kind | other)

    def test_example_of_the_document(self):
        self.assertEqual(
            ["all", "round", ((0, 1, 2), (1, 2, 0), (2, 0, 1)), True],
            [str(Kind("sides") & Kind("front")), str(Kind("round", calm=True) | Kind("all")),
             Kind("round").images((0, 1, 2)), Kind("all").within(Kind("back"))])


if __name__ == "__main__":
    unittest.main()
