"""The beginnings of thirdback.beginnings (points 3 to 5, 8 and the last part of 9)."""

import itertools
import operator
import random
import unittest

import slow
from common import (
    A, B, C, EQUAL_TO_ALL, KINDS, MANY_DIGITS, NO_BEGINNINGS, NO_TUPLES, ODD_VALUES, WRONG_FORMULA, WRONG_KINDS,
    assert_error, assert_errors_in_order, given, indexed)
from thirdback.beginnings import Beginning
from thirdback.errors import (
    Clash, InvalidContents, InvalidNumber, InvalidTriple, InvalidTriples, NotABeginning, OtherKind, TooMany)
from thirdback.formulas import Formula, letter
from thirdback.kinds import Kind

PLAIN, ALL, CALM = Kind("plain"), Kind("all"), Kind("plain", calm=True)
TWO = Beginning(ALL, 3, ((0, 1, 2),))
NO_THINGS = (None, True, False, -1, 3, 600, MANY_DIGITS, "0", "a", (), (0,), [0], {}, b"0", A, TWO)
NO_TRIPLES = (
    None, True, 0, "012", (), (0,), (0, 1), (0, 1, 2, 0), [0, 1, 2], ((0, 1, 2),), (True, 1, 2), (0, False, 2),
    (0, 1, True), (-1, 0, 0), (0, -1, 0), (0, 0, -1), (3, 0, 0), (0, 3, 0), (0, 0, 3), (0, 0, MANY_DIGITS),
    (0, 0, -MANY_DIGITS), (None, 0, 0), (0, "0", 0), (0, 0, (0,)), ([], [], []), {0: 0, 1: 1, 2: 2}, A, TWO)


def plain_beginning(kind, size, triples):
    """All triples of the beginning, or the index of the first that clashes, in the words of point 8."""
    found = {(a, a, a) for a in range(size) if kind.calm}
    for index, triple in enumerate(triples):
        found |= slow.with_images(kind, [triple])
        if slow.have_clash(found):
            return index
    return found


def random_triples(source, size, count):
    """So many triples, some of them twice."""
    triples = [tuple(source.choices(range(size), k=3)) for _ in range(count)] if size else []
    return tuple(triples + source.sample(triples, min(2, len(triples))))


def random_beginnings(seed, kind, count):
    """Beginnings with the triples that can be had of many random ones."""
    source = random.Random(seed)
    for _ in range(count):
        size = source.randint(1, 6)
        triples = ()
        for triple in random_triples(source, size, source.randint(0, 12)):
            if not isinstance(plain_beginning(kind, size, triples + (triple,)), int):
                triples = triples + (triple,)
        yield Beginning(kind, size, triples)


class MakingTest(unittest.TestCase):
    def test_all_triples_or_the_first_clash(self):
        source = random.Random(7)
        for kind in KINDS:
            clashes = set()
            for _ in range(150):
                size = source.randint(0, 6)
                triples = random_triples(source, size, source.randint(0, 7))
                expected = plain_beginning(kind, size, triples)
                with self.subTest(str(kind), size=size, triples=triples):
                    if isinstance(expected, int):
                        clashes.add(expected)
                        assert_error(self, Clash, "index", expected, lambda: Beginning(kind, size, triples))
                        continue
                    for made in (Beginning(kind, size, triples),
                                 Beginning(triples=triples, size=size, kind=kind)):
                        self.assertEqual(tuple(sorted(expected)), made.triples)
                        self.assertIs(tuple, made.triples.__class__)
                        self.assertEqual((kind, size, len(expected)), (made.kind, made.size, len(made)))
                        self.assertTrue(slow.is_beginning(kind, size, made.triples))
                        self.assertTrue(made)
            self.assertGreater(len(clashes), 3)

    def test_no_triples(self):
        for kind in KINDS:
            for size in (0, 1, 2, 599, 600):
                for made in (Beginning(kind, size), Beginning(kind, size, ()), Beginning(kind=kind, size=size)):
                    own = tuple([(a, a, a) for a in range(size)]) if kind.calm else ()
                    self.assertEqual((size, own, len(own)), (made.size, made.triples, len(made)))
                    self.assertTrue(made)

    def test_things_up_to_599(self):
        made = Beginning(PLAIN, 600, ((599, 598, 597), (0, 599, 1), (1, 0, 599), (0, 0, 0), (1, 1, 0)))
        self.assertEqual(((0, 0, 0), (0, 599, 1), (1, 0, 599), (1, 1, 0), (599, 598, 597)), made.triples)
        self.assertEqual([597, 1, 599, 599, 598, 0], [
            made(599, 598), made(0, 599), made(1, 0), made.first(597, 598), made.second(599, 597), made.first(1, 599)])

    def test_clash_with_the_triples_of_things_with_themselves(self):
        for triple in ((0, 0, 1), (0, 1, 0), (1, 0, 0)):
            self.assertEqual(1, len(Beginning(PLAIN, 2, (triple,))))
            triples = ((0, 0, 0), (1, 1, 1), triple)
            assert_error(self, Clash, "index", 2, lambda: Beginning(CALM, 2, triples))

    def test_clash_with_an_image(self):
        for turns, second in (("sides", (1, 0, 3)), ("front", (2, 1, 3)), ("back", (0, 2, 3)), ("round", (1, 2, 3)),
                              ("round", (2, 0, 3)), ("all", (1, 0, 3)), ("all", (3, 0, 1))):
            for calm in (False, True):
                kind = Kind(turns, calm=calm)
                triples = ((0, 1, 2), (3, 3, 3), second)
                assert_error(self, Clash, "index", 2, lambda: Beginning(kind, 4, triples))
                self.assertEqual(3, len([t for t in Beginning(PLAIN, 4, triples).triples if t in triples]))

    def test_images_and_repeated_triples_do_not_clash(self):
        for kind in KINDS:
            triples = kind.images((0, 1, 2))
            made = Beginning(kind, 3, triples + triples)
            self.assertEqual(made, Beginning(kind, 3, triples[:1]))

    def test_wrong_arguments_in_order(self):
        four = ((0, 0, 0), (0, 1, 1), (1, 0, 2), (2, 2, 1))
        rows = [(value, None) for value in NO_TUPLES + ([(0, 1, 2)], "012", 3)]
        rows += [((value,), 0) for value in NO_TRIPLES]
        rows += [(four[:at] + (value,) + four[at:], at) for at in range(5) for value in NO_TRIPLES[::3]]
        rows += [((0, 1, 2), 0), (four + (None, (0, 0)), 4), (((0, 0, 0), (0, 0, 1), (0, 0, 3)), 2)]
        no_sizes = tuple([value for value in ODD_VALUES if value not in (0, 1, 7) or isinstance(value, bool)])
        assert_errors_in_order(self, Beginning, {"kind": PLAIN, "size": 3, "triples": four}, {
            "kind": WRONG_KINDS, "size": given(InvalidNumber, no_sizes + (601, -1, 600 ** 9, "3", (3,), None)),
            "triples": indexed(InvalidTriples, rows)})

    def test_wrong_triples_are_found_ahead_of_clashes(self):
        assert_error(self, InvalidTriples, "index", 2, lambda: Beginning(
            PLAIN, 3, ((0, 0, 0), (0, 0, 1), (0, 0, True))))
        assert_error(self, InvalidTriples, "index", 0, lambda: Beginning(PLAIN, 0, ((0, 0, 0),)))
        assert_error(self, Clash, "index", 1, lambda: Beginning(PLAIN, 3, ((0, 0, 0), (0, 0, 1), (0, 0, 2))))

    def test_never_changes(self):
        for name in ("kind", "size", "triples", "whole"):
            with self.subTest(name), self.assertRaises(AttributeError):
                setattr(TWO, name, None)
        self.assertEqual((ALL, 3, 6), (TWO.kind, TWO.size, len(TWO)))


class WholeTest(unittest.TestCase):
    def test_whole_rules_and_those_with_a_triple_less(self):
        for kind in KINDS:
            for size, triples in slow.rules_of(kind, 8):
                made = Beginning(kind, size, tuple(sorted(triples)))
                self.assertIs(True, made.whole)
                self.assertEqual((size * size, tuple(sorted(triples))), (len(made), made.triples))
                for lacking in sorted(triples)[::5]:
                    less = triples - slow.with_images(kind, [lacking])
                    is_there_anyway = kind.calm and len(set(lacking)) == 1
                    self.assertIs(is_there_anyway, Beginning(kind, size, tuple(less)).whole)

    def test_no_things_are_no_rule(self):
        for kind in KINDS:
            self.assertIs(False, Beginning(kind, 0).whole)
            self.assertIs(kind.calm, Beginning(kind, 1).whole)
            self.assertIs(True, Beginning(kind, 1, ((0, 0, 0),)).whole)
            self.assertIs(False, Beginning(kind, 2).whole)
            self.assertIs(False, Beginning(kind, 600).whole)

    def test_six_hundred_things(self):
        made = Beginning(Kind("sides"), 600, tuple([(i, j, (i + j) % 600) for i in range(600) for j in range(600)]))
        self.assertEqual((True, 360000, 599, 1), (made.whole, len(made), made(599, 0), made.second(599, 0)))


class AskingTest(unittest.TestCase):
    def test_the_third_thing(self):
        for kind in KINDS:
            for made in random_beginnings(8, kind, 12):
                triples = set(made.triples)
                for one, other in itertools.product(range(made.size), repeat=2):
                    mixed = [t[2] for t in triples if t[:2] == (one, other)] + [None]
                    first = [t[0] for t in triples if t[1:] == (other, one)] + [None]
                    second = [t[1] for t in triples if (t[0], t[2]) == (one, other)] + [None]
                    self.assertEqual([mixed[0]] * 2, [made(one, other), made(second=other, first=one)])
                    self.assertEqual([first[0]] * 2, [made.first(one, other), made.first(second=other, mixed=one)])
                    self.assertEqual([second[0]] * 2, [made.second(one, other), made.second(mixed=other, first=one)])

    def test_wrong_things_in_order(self):
        wrong = given(InvalidNumber, NO_THINGS)
        for function, names in ((TWO.first, ("mixed", "second")), (TWO.second, ("first", "mixed"))):
            assert_errors_in_order(self, function, {name: 0 for name in names}, {name: wrong for name in names})
        for value in NO_THINGS:
            for other in (0, 2, None, "x"):
                assert_error(self, InvalidNumber, "given", value, lambda: TWO(value, other))
                assert_error(self, InvalidNumber, "given", value, lambda: TWO(second=other, first=value))
            assert_error(self, InvalidNumber, "given", value, lambda: TWO(2, value))
        assert_error(self, InvalidNumber, "given", 0, lambda: Beginning(PLAIN, 0)(0, 0))

    def test_contains_its_triples_alone(self):
        for kind in KINDS:
            for made in random_beginnings(9, kind, 10):
                for triple in itertools.product(range(-1, made.size + 1), repeat=3):
                    self.assertIs(triple in set(made.triples), triple in made)

    def test_contains_no_other_values(self):
        made = Beginning(CALM, 4, ((0, 1, 2), (1, 0, 3)))
        for value in NO_TRIPLES + ODD_VALUES + ((0, 600, 2), (-1, 601, 2), (0, 1), [0, 1, 2], (False, False, False),
                                                (True, True, True), (0, True, 2), (1, False, 3), (-1, 600, 0),
                                                (0, 1, EQUAL_TO_ALL)):
            if value not in ((0, 1, 2), (3, 3, 3)) or isinstance(value, list):
                with self.subTest(value):
                    self.assertIs(False, value in made)
        self.assertIs(True, (0, 1, 2) in made)

    def test_keys_of_other_things_are_not_mistaken(self):
        made = Beginning(PLAIN, 600, ((1, 0, 5),))
        self.assertIs(False, (0, 600, 5) in made)
        self.assertIs(False, (2, -600, 5) in made)


class GrownTest(unittest.TestCase):
    def test_one_thing_more_or_none(self):
        for kind in KINDS:
            for made in random_beginnings(10, kind, 8):
                before = (made.size, made.triples)
                for one, other in itertools.product(range(made.size), repeat=2):
                    for triple in ((one, other, None), (one, None, other), (None, one, other)):
                        grown = made.grown(*triple)
                        self.check(kind, made, triple, grown)
                        first, second, mixed = triple
                        self.assertEqual(grown, made.grown(mixed=mixed, second=second, first=first))
                self.assertEqual(before, (made.size, made.triples))

    def check(self, kind, made, triple, grown):
        """That it is grown as point 8 says."""
        place = triple.index(None)
        if any(all(t[at] == triple[at] for at in range(3) if at != place) for t in made.triples):
            self.assertEqual(made, grown)
            return
        new = triple[:place] + (made.size,) + triple[place + 1:]
        expected = set(made.triples) | slow.with_images(kind, [new])
        if kind.calm:
            expected.add((made.size,) * 3)
        self.assertEqual((kind, made.size + 1), (grown.kind, grown.size))
        self.assertEqual(tuple(sorted(expected)), grown.triples)
        self.assertTrue(slow.is_beginning(kind, grown.size, grown.triples))

    def test_grown_many_times(self):
        source = random.Random(11)
        for kind in KINDS:
            made = Beginning(kind, 5)
            for _ in range(40):
                triple = source.sample(range(made.size), 2)
                triple.insert(source.randint(0, 2), None)
                made = made.grown(*triple)
            self.assertGreater(made.size, 30)
            self.assertTrue(slow.is_beginning(kind, made.size, made.triples))
            self.assertEqual(made, Beginning(kind, made.size, made.triples))

    def test_at_most_600_things(self):
        for kind in KINDS:
            made = Beginning(kind, 599, ((0, 1, 2),)).grown(3, None, 4)
            self.assertEqual((600, 599), (made.size, made.second(3, 4)))
            for triple in ((5, 599, None), (None, 5, 599), (598, None, 597)):
                assert_error(self, TooMany, "limit", 600, lambda: made.grown(*triple))
            for triple in ((0, 1, None), (3, None, 4), (None, 1, 2)):
                self.assertEqual(made, made.grown(*triple))
            if kind.calm:
                self.assertEqual(made, made.grown(599, 599, None))

    def test_wrong_arguments(self):
        for made in (TWO, Beginning(PLAIN, 3), Beginning(CALM, 600)):
            no_things = NO_THINGS if made.size == 3 else (True, False, -1, 600, "0", (0,), [0], A)
            wrong = [(None, None, None), (0, None, None), (None, 0, None), (None, None, 0), (0, 1, 2), (0, 0, 0)]
            for value in no_things:
                if value is not None:
                    wrong += [(value, 0, None), (0, value, None), (value, None, 0), (0, None, value),
                              (None, value, 0), (None, 0, value), (value, None, None), (0, 1, value)]
            for triple in wrong:
                with self.subTest(triple):
                    first, second, mixed = triple
                    assert_error(self, InvalidTriple, "given", triple, lambda: made.grown(first, second, mixed))
                    assert_error(self, InvalidTriple, "given", triple, lambda: made.grown(
                        mixed=mixed, first=first, second=second))


class ValueTest(unittest.TestCase):
    def test_known_values(self):
        source = random.Random(12)
        known = 0
        for kind in KINDS:
            for made in random_beginnings(13, kind, 12):
                triples = frozenset(made.triples)
                for _ in range(12):
                    tree = slow.random_tree(source, ("a", "b", "c"), source.randint(0, 4))
                    names = source.sample(("a", "b", "c", "d"), source.randint(0, 4))
                    contents = {name: source.randrange(made.size) for name in sorted(names)}
                    expected = slow.value_in(triples, tree, contents)
                    formula, pairs = slow.made_of(tree), tuple(contents.items())
                    with self.subTest(str(kind), formula=str(formula), pairs=pairs, triples=made.triples):
                        self.assertEqual(expected, made.value(formula, pairs))
                        self.assertEqual(expected, made.value(contents=pairs, formula=formula))
                    known += expected is not None and len(formula) > 0
        self.assertGreater(known, 100)

    def test_in_whole_rules_all_values_are_known(self):
        source = random.Random(14)
        for kind in KINDS:
            for size, triples in slow.rules_of(kind, 6):
                made = Beginning(kind, size, tuple(triples))
                for count in range(9):
                    tree = slow.random_tree(source, ("a", "b"), count)
                    contents = {"a": source.randrange(size), "b": source.randrange(size)}
                    value = made.value(slow.made_of(tree), tuple(contents.items()))
                    self.assertIsNotNone(value)
                    self.assertEqual(slow.value_in(triples, tree, contents), value)

    def test_written_out(self):
        made = Beginning(PLAIN, 4, ((0, 1, 2), (2, 1, 3)))
        contents = (("a", 0), ("b", 1), ("c", 2), ("d", 3))
        for text, value in (("a", 0), ("d", 3), ("e", None), ("(a * b)", 2), ("((a * b) * b)", 3), ("(b * a)", None),
                            ("(c // b)", 0), ("(d // b)", 2), ("((d // b) // b)", 0), ("(a >> c)", 1),
                            ("(b >> c)", None), ("(a * e)", None), ("((b * a) * b)", None), ("(b // (b * a))", None)):
            with self.subTest(text):
                self.assertEqual(value, made.value(Formula.read(text), contents))
        self.assertIsNone(made.value(A, ()))

    def test_wrong_arguments_in_order(self):
        pairs = (("a", 0), ("b", 1), ("b0", 2), ("c", 0))
        no_pairs = ODD_VALUES + (A, ("a", 0), ("a",), ("a", 0, 0), ["a", 0], ("A", 0), ("", 0), (A, 0), (0, "a"),
                                 ("abcdefghi", 0), ("a b", 0), (("a",), 0), (["a"], 0), ({}, 0), (None, None))
        no_pairs = tuple([value for value in no_pairs if value != ("a", 0)])
        no_pairs += tuple([("a", value) for value in NO_THINGS])
        rows = [(value, None) for value in NO_TUPLES + ([("a", 0)], {"a": 0}, A, TWO)]
        rows += [((value,), 0) for value in no_pairs]
        rows += [(pairs[:at] + (value,) + pairs[at:], at) for at in range(5) for value in no_pairs[::4]]
        rows += [((("b", 0), ("a", 0)), 1), ((("a", 0), ("a", 0)), 1), ((("a", 0), ("b", 0), ("ab", 0), ("c", 7)), 2),
                 ((("a0", 0), ("a", 0)), 1), ((("b", 0), ("a", 9)), 1), (pairs + (("c", 0),), 4), (("a", 0), 0)]
        assert_errors_in_order(self, TWO.value, {"formula": A * C, "contents": pairs}, {
            "formula": WRONG_FORMULA, "contents": indexed(InvalidContents, rows)})

    def test_many_contents(self):
        names = sorted(f"{first}{number}" for first in "abc" for number in range(400))
        made = Beginning(ALL, 600)
        contents = tuple((name, index % 600) for index, name in enumerate(names))
        self.assertEqual(dict(contents)["b77"], made.value(letter("b77"), contents))


class JoiningTest(unittest.TestCase):
    def test_both_signs(self):
        clashes = 0
        for kind in KINDS:
            found = list(random_beginnings(15, kind, 14))
            for one, other in itertools.product(found, repeat=2):
                before = (one.size, one.triples, other.size, other.triples)
                self.check_shared(kind, one, other)
                clashes += self.check_joined(kind, one, other)
                self.assertEqual(before, (one.size, one.triples, other.size, other.triples))
        self.assertGreater(clashes, 100)

    def check_shared(self, kind, one, other):
        """That `&` gives what both have."""
        both = one & other
        self.assertIs(Beginning, both.__class__)
        self.assertEqual((kind, min(one.size, other.size)), (both.kind, both.size))
        self.assertEqual(tuple(sorted(set(one.triples) & set(other.triples))), both.triples)

    def check_joined(self, kind, one, other):
        """That `|` gives what one of them has, or the first clash; whether there was one."""
        size = max(one.size, other.size)
        found = set(one.triples) | {(a, a, a) for a in range(size) if kind.calm}
        for index, triple in enumerate(other.triples):
            found.add(triple)
            if slow.have_clash(found):
                assert_error(self, Clash, "index", index, lambda: one | other)
                return True
        either = one | other
        self.assertIs(Beginning, either.__class__)
        self.assertEqual((kind, size, tuple(sorted(found))), (either.kind, either.size, either.triples))
        self.assertTrue(slow.is_beginning(kind, size, either.triples))
        self.assertEqual(either, one | either)
        self.assertEqual(one, either & one)
        return False

    def test_written_out(self):
        one = Beginning(Kind("sides"), 4, ((0, 1, 2), (3, 3, 0)))
        other = Beginning(Kind("sides"), 5, ((1, 0, 2), (3, 3, 1), (4, 0, 3)))
        # The triples of the other: (0, 1, 2), (0, 4, 3), (1, 0, 2), (3, 3, 1), (4, 0, 3).
        assert_error(self, Clash, "index", 3, lambda: one | other)
        self.assertEqual((4, ((0, 1, 2), (1, 0, 2))), ((one & other).size, (one & other).triples))
        self.assertEqual(5, (Beginning(Kind("sides"), 3) | other).size)

    def test_in_place_signs_make_new_beginnings(self):
        made = kept = TWO
        made |= Beginning(ALL, 4, ((0, 0, 3),))
        self.assertEqual((4, 9, 3, 6), (made.size, len(made), kept.size, len(kept)))
        made &= kept
        self.assertEqual(kept, made)

    def test_wrong_others_in_order(self):
        for sign in (operator.or_, operator.and_):
            for made in (TWO, Beginning(CALM, 0), Beginning(PLAIN, 600)):
                for other in NO_BEGINNINGS:
                    with self.subTest(other):
                        assert_error(self, NotABeginning, "given", other, lambda: sign(made, other))
            for one, other in itertools.permutations(KINDS, 2):
                clashing = Beginning(other, 2, ((0, 1, 1),)) if not other.calm else Beginning(other, 2)
                assert_error(self, OtherKind, "given", clashing, lambda: sign(Beginning(one, 2), clashing))


class EqualityTest(unittest.TestCase):
    def test_equal_if_kinds_sizes_and_triples_are(self):
        found = [made for kind in KINDS[::3] for made in random_beginnings(16, kind, 10)]
        found += [Beginning(kind, size) for kind in KINDS for size in (0, 1, 2)]
        for one, other in itertools.product(found, repeat=2):
            expected = (str(one.kind), one.size, one.triples) == (str(other.kind), other.size, other.triples)
            self.assertIs(expected, one == other)
            self.assertIs(not expected, one != other)
        for made in found:
            self.assertEqual(made, Beginning(made.kind, made.size, made.triples[::-1]))

    def test_never_equal_to_a_value_of_another_class(self):
        for made in (TWO, Beginning(PLAIN, 0), Beginning(CALM, 1)):
            for value in NO_BEGINNINGS + (made.triples, (made.kind, made.size, made.triples), made.size):
                with self.subTest(value):
                    self.assertIs(False, made == value)
                    self.assertIs(False, value == made)
                    self.assertIs(True, made != value)


class PlaceTest(unittest.TestCase):
    def test_everything_stands_in_its_class_and_file(self):
        self.assertEqual("thirdback.beginnings", Beginning.__module__)
        for name in ("kind", "size", "triples", "whole", "__call__", "first", "second", "grown", "value",
                     "__contains__", "__len__", "__bool__", "__eq__", "__or__", "__and__"):
            self.assertIn(name, vars(Beginning))

    def test_example_of_the_document(self):
        more = TWO.grown(0, 0, None)
        self.assertEqual(
            [6, 0, None, 4, 9, 0, True, 1],
            [len(TWO), TWO(2, 1), TWO(0, 0), more.size, len(more), more(0, 3), more & TWO == TWO,
             more.value(A * (A * B), (("a", 0), ("b", 1)))])


if __name__ == "__main__":
    unittest.main()
