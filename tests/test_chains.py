"""What losses harm in chains: thirdback.chains and thirdback.borders (points 2 to 6 and 15)."""

import collections
import itertools
import random
import unittest

import slow
import slow_chains
from common import (
    A, EQUAL_TO_ALL, KINDS, MANY_DIGITS, NO_TUPLES, ODD_VALUES, assert_errors_in_order, given, indexed)
from thirdback.borders import Borders
from thirdback.chains import Cell, first_break, harmed, least_break, untold
from thirdback.errors import InvalidLost, InvalidNumber, NotACell
from thirdback.kinds import Kind
from thirdback.lengths import Lengths

PLAIN = Kind("plain")
CELL = Cell(PLAIN, ("p",), ("x",), ("q",), (("p", "x", "q"),), stored=("x", "q"), wanted=("x",), begin=("p",))
CLOSED = Cell(PLAIN, ("p",), ("x",), ("q",), (("p", "x", "q"),), stored=("x", "q"), wanted=("x",), begin=("p",),
              end=("q",))
NO_CELLS = ODD_VALUES + (A, PLAIN, Cell, CELL.row, (CELL,), [CELL])
WRONG_CELL = given(NotACell, NO_CELLS)
NO_COUNTS = tuple([value for value in ODD_VALUES if isinstance(value, bool) or value not in (1, 7)]) + (
    0, -1, 201, MANY_DIGITS, "1", (1,), CELL, EQUAL_TO_ALL)


def turning(side):
    """A cell that passes each of its ins on to the next out but one; known is one at the begin and one at the end."""
    ins, outs = ("p", "r", "t")[:side], ("q", "s", "o")[:side]
    triples = tuple([(ins[at], "x", outs[(at + 1) % side]) for at in range(side)])
    return Cell(PLAIN, ins, ("x",), outs, triples, stored=("x",), wanted=("x",), begin=ins[:1], end=outs[:1])


def lossy_cells(seed, count, most_stored=3, most_side=2):
    """For each kind so many small cells in which nothing harms before something is lost, if such are found."""
    source = random.Random(seed)
    for kind in KINDS:
        for _ in range(count):
            yield slow_chains.useful_cell(source, kind, most_stored, most_side)


class UntoldTest(unittest.TestCase):
    def test_against_the_chain_laid_out(self):
        source = random.Random(110)
        found = collections.Counter()
        for kind in KINDS:
            for _ in range(25):
                cell = slow_chains.random_cell(source, kind)
                for count in (1, 2, 3, source.randint(4, 7)):
                    every = slow_chains.stored(cell, count)
                    lost = tuple(sorted(source.sample(every, source.randint(0, len(every)))))
                    expected = slow_chains.untold(cell, count, lost)
                    with self.subTest(cell.row, count=count, lost=lost):
                        self.assertEqual(expected, untold(cell, count, lost))
                        self.assertEqual(expected, untold(lost=lost, count=count, cell=cell))
                    found[expected == (), lost == ()] += 1
        self.assertGreater(min(found.values()), 20)

    def test_with_all_sets_of_lost_things(self):
        for cell in lossy_cells(111, 5):
            for count in (1, 2):
                every = slow_chains.stored(cell, count)
                for many in range(len(every) + 1):
                    for lost in itertools.combinations(every, many):
                        self.assertEqual(slow_chains.untold(cell, count, lost), untold(cell, count, lost))

    def test_what_is_told_is_so_in_whole_rules(self):
        source = random.Random(112)
        seen = collections.Counter()
        for kind in KINDS:
            for _ in range(25):
                cell = slow_chains.random_cell(source, kind, 1, 2, 4, 3)
                for count in (1, 2):
                    every = slow_chains.stored(cell, count)
                    lost = tuple(sorted(source.sample(every, source.randint(0, min(2, len(every))))))
                    told = set(slow_chains.wanted(cell, count)) - set(untold(cell, count, lost))
                    rules = [rule for rule in slow.rules_of(kind, 1) if rule[0] in (2, 3)][::4] if told else []
                    for rule in rules:
                        self.assert_told(cell, count, lost, told, rule, seen)
        self.assertTrue(all(seen[str(kind)] > 20 for kind in KINDS))

    def assert_told(self, cell, count, lost, told, rule, seen):
        """All fillings that agree in the kept things agree in the told ones."""
        things = slow_chains.things(cell, count)
        triples = slow_chains.triples(cell, count)
        kept = slow_chains.kept(cell, count, lost)
        first = {}
        for values in itertools.product(range(rule[0]), repeat=len(things)):
            filling = dict(zip(things, values))
            if all(tuple(filling[one] for one in triple) in rule[1] for triple in triples):
                key = tuple(filling[one] for one in kept)
                agreed = tuple(filling[one] for one in sorted(told))
                self.assertEqual(agreed, first.setdefault(key, agreed))
                seen[str(cell.kind)] += 1

    def test_written_out(self):
        self.assertEqual((), untold(CELL, 3, ()))
        self.assertEqual((), untold(CELL, 3, ((0, "q"), (0, "x"))))
        self.assertEqual(((2, "x"),), untold(CELL, 3, ((2, "q"), (2, "x"))))
        self.assertEqual((), untold(CLOSED, 3, ((2, "q"), (2, "x"))))
        self.assertEqual(((1, "x"), (2, "x")), untold(CELL, 3, ((1, "q"), (1, "x"), (2, "q"), (2, "x"))))
        self.assertEqual((), untold(CELL, 200, tuple([(at, "q") for at in range(200)])))
        self.assertEqual((), untold(CELL, 200, tuple([(at, "x") for at in range(200)])))
        both = tuple([(at, name) for at in range(200) for name in ("q", "x")])
        self.assertEqual(tuple([(at, "x") for at in range(200)]), untold(CELL, 200, both))
        self.assertEqual(tuple([(at, "x") for at in range(199)]), untold(CELL, 200, both[:-2]))

    def test_wanted_things_are_ascending(self):
        cell = Cell(PLAIN, ("b", "a"), ("z", "y"), ("d", "c"), (), stored=(), wanted=("z", "d", "y", "c"), begin=("a",))
        self.assertEqual(tuple([(at, name) for at in range(3) for name in "cdyz"]), untold(cell, 3, ()))
        self.assertEqual((("d", "c"), ("z", "d", "y", "c")), (cell.outs, cell.wanted))

    def test_known_at_the_begin_and_at_the_end(self):
        for begin, end, expected in (((), (), (0, 1, 2)), (("p",), (), ()), ((), ("q",), ()), (("p",), ("q",), ())):
            cell = Cell(PLAIN, ("p",), ("x",), ("q",), (("p", "x", "q"),), stored=("x",), wanted=("q",), begin=begin,
                        end=end)
            self.assertEqual(tuple([(at, "q") for at in expected]), untold(cell, 3, ()))

    def test_wrong_arguments_in_order(self):
        right = tuple([(at, name) for at in range(4) for name in ("q", "x")])
        no_things = ODD_VALUES + ((0,), (0, "p"), (0, "y"), (0, "q", 1), [0, "q"], ("q", 0), (True, "q"), (False, "q"),
                                  (-1, "q"), (4, "q"), (MANY_DIGITS, "x"), ("0", "q"), (None, "q"), (0, None),
                                  (0, ("q",)),
                                  (0, EQUAL_TO_ALL), (EQUAL_TO_ALL, "q"), ((0, "q"),), (0, ["q"]), CELL)
        rows = [(value, None) for value in NO_TUPLES + ([(0, "q")], {(0, "q"): 1}, "q", CELL)]
        rows += [((value,), 0) for value in no_things]
        rows += [(right[:at] + (value,) + right[at + 1:], at) for at in range(8) for value in no_things[::3]]
        rows += [(right[:at] + (right[at - 1],) + right[at + 1:], at) for at in range(1, 8)]
        rows += [(right[::-1], 1), (((0, "x"), (0, "q")), 1), (right + ((3, "x"),), 8), (right + ((4, "q"),), 8)]
        assert_errors_in_order(self, untold, {"cell": CELL, "count": 4, "lost": right}, {
            "cell": WRONG_CELL, "count": given(InvalidNumber, NO_COUNTS), "lost": indexed(InvalidLost, rows)})


class BreakTest(unittest.TestCase):
    def assert_harms(self, cell, count, lost):
        """That it is an ascending tuple of stored things that harm."""
        self.assertIs(tuple, lost.__class__)
        self.assertEqual(sorted(set(lost)), list(lost))
        self.assertTrue(set(lost) <= set(slow_chains.stored(cell, count)))
        self.assertTrue(slow_chains.untold(cell, count, lost))

    def test_least_break_against_all_sets(self):
        sizes = collections.Counter()
        for cell in lossy_cells(113, 9):
            for count in (1, 2, 3):
                expected = slow_chains.fewest(cell, count)
                found = least_break(cell, count)
                with self.subTest(cell.row, count=count):
                    self.assertEqual(expected, None if found is None else len(found))
                    if found is not None:
                        self.assert_harms(cell, count, found)
                    self.assertEqual(found, least_break(count=count, cell=cell))
                sizes[expected] += 1
        self.assertTrue({None, 0, 1, 2, 3} <= set(sizes))
        self.assertGreater(sizes[2], 20)

    def test_first_break_against_least_breaks(self):
        counts = collections.Counter()
        for cell in lossy_cells(114, 20, 4, 3):
            found = first_break(cell)
            least = [least_break(cell, count) for count in range(1, 11)]
            with self.subTest(cell.row):
                self.assertEqual(found, first_break(cell=cell))
                if found is None:
                    self.assertEqual([None] * 10, least)
                    counts[None] += 1
                    continue
                count, lost = found
                self.assertTrue(1 <= count <= 10)
                self.assert_harms(cell, count, lost)
                self.assertEqual(len(lost), min([len(other) for other in least if other is not None]))
                as_few = [other is not None and len(other) == len(lost) for other in least]
                self.assertEqual(count, 1 + as_few.index(True))
                counts[count] += 1
        self.assertTrue({None, 1, 2} <= set(counts))

    def test_many_cells(self):
        for count in (1, 2, 3, 50, 200):
            self.assertEqual(2, len(least_break(CELL, count)))
            self.assertEqual(None if count == 1 else 3, least_break(CLOSED, count) and len(least_break(CLOSED, count)))
            self.assert_harms(CELL, count, least_break(CELL, count))
        self.assert_harms(CLOSED, 200, least_break(CLOSED, 200))

    def test_first_break_with_as_few_cells_as_can_be(self):
        self.assertEqual((1, ((0, "q"), (0, "x"))), first_break(CELL))
        self.assertEqual((2, 3), (first_break(CLOSED)[0], len(first_break(CLOSED)[1])))
        # Four in a row are lost with fewer cells than it takes to lose fewer.
        for cell, expected in ((turning(2), (1, 1)), (turning(3), (1, 1))):
            count, lost = first_break(cell)
            self.assertEqual(expected, (count, len(lost)))

    def test_nothing_harms(self):
        cell = Cell(PLAIN, ("p",), ("x",), ("q",), (("p", "x", "q"),), stored=(), wanted=("q",), begin=("p",))
        self.assertEqual(((1, ()), (), "(1)"), (first_break(cell), least_break(cell, 5), str(harmed(cell, 0))))
        cell = Cell(PLAIN, ("p",), (), ("q",), (("p", "p", "q"),), stored=("q",), wanted=("q",), begin=("p",))
        self.assertEqual((None, None, "(0)"), (first_break(cell), least_break(cell, 200), str(harmed(cell, 9))))

    def test_no_sides(self):
        cell = Cell(PLAIN, (), ("x", "y", "z"), (), (("x", "y", "z"),), stored=("x", "y", "z"), wanted=("x", "y"))
        self.assertEqual((1, 2), (first_break(cell)[0], len(first_break(cell)[1])))
        self.assertEqual(["(0)", "(0)", "(1)"], [str(harmed(cell, number)) for number in range(3)])
        self.assertEqual(2, len(least_break(cell, 200)))

    def test_wrong_arguments_in_order(self):
        assert_errors_in_order(self, least_break, {"cell": CELL, "count": 200}, {
            "cell": WRONG_CELL, "count": given(InvalidNumber, NO_COUNTS)})
        assert_errors_in_order(self, first_break, {"cell": CELL}, {"cell": WRONG_CELL})


class HarmedTest(unittest.TestCase):
    def test_against_least_breaks(self):
        texts = set()
        for cell in lossy_cells(115, 15, 4, 3):
            least = [least_break(cell, count) for count in range(1, 13)]
            for number in (0, 1, 2, 3, 5, 9):
                found = harmed(cell, number)
                with self.subTest(cell.row, number=number):
                    self.assertIs(Lengths, found.__class__)
                    self.assertEqual([count for count in range(1, 13) if least[count - 1] is not None
                                      and len(least[count - 1]) <= number], list(found.up_to(12)))
                    self.assertEqual(found, harmed(number=number, cell=cell))
                texts.add(str(found))
        self.assertTrue({"(0)", "(1)", "0(1)"} <= texts)
        self.assertGreater(len(texts), 6)

    def test_again_and_again(self):
        self.assertEqual(["(0)", "(10)", "(1)"], [str(harmed(turning(2), number)) for number in range(3)])
        self.assertEqual(["(0)", "(110)", "(1)"], [str(harmed(turning(3), number)) for number in range(3)])

    def test_lengths_that_do_not_begin_to_repeat_at_once(self):
        late = Cell(PLAIN, ("p0", "p1"), (), ("q0", "q1"), (("q0", "p0", "q0"), ("p1", "q1", "p0"), ("q0", "p1", "q1"),
                    ("p1", "p0", "q1")), stored=("q0", "q1"), wanted=("q0", "q1"), begin=("p1",), end=("q1",))
        later = Cell(PLAIN, ("p0", "p1"), ("x0", "x1"), ("q0", "q1"), (("p1", "p0", "x1"), ("q1", "p1", "p0"),
                     ("x0", "q1", "p0")), stored=("x0",), wanted=("q1", "x0"), begin=("p0", "p1"), end=("q0", "q1"))
        for cell in (late, later):
            for number in range(10):
                found = harmed(cell, number)
                expected = [count for count in range(1, 6) if (
                    fewest := slow_chains.fewest(cell, count, number)) is not None and fewest <= number]
                self.assertEqual(expected, list(found.up_to(5)))
        self.assertEqual(["(0)", "(0)", "01(0)", "01(0)", "011(0)", "0111(0)"], [
            str(harmed(late, number)) for number in (0, 2, 3, 4, 5, 6)])
        self.assertEqual("00(1)", str(harmed(later, 2)))

    def test_all_numbers_of_losses(self):
        self.assertEqual(["(0)", "(0)"] + ["(1)"] * 8, [str(harmed(CELL, number)) for number in range(10)])
        self.assertEqual(["(0)"] * 3 + ["0(1)"] * 7, [str(harmed(CLOSED, number)) for number in range(10)])

    def test_wrong_arguments_in_order(self):
        no_numbers = [value for value in ODD_VALUES if isinstance(value, bool) or value not in (0, 1, 7)] + [
            -1, 10, MANY_DIGITS, "1", (1,), CELL, EQUAL_TO_ALL]
        assert_errors_in_order(self, harmed, {"cell": CELL, "number": 9}, {
            "cell": WRONG_CELL, "number": given(InvalidNumber, no_numbers)})


class BorderTest(unittest.TestCase):
    def test_border_functions_against_the_chain_laid_out(self):
        source = random.Random(116)
        seen = set()
        for kind in KINDS:
            for _ in range(45):
                cell = slow_chains.random_cell(source, kind)
                borders = Borders(cell)
                function, lost = borders.start(), []
                self.assertEqual(slow_chains.border_function(cell, 0, ()), function)
                for count in range(1, 5):
                    number = source.randrange(2 ** len(cell.stored))
                    names = borders.lost_names(number)
                    self.assertEqual(slow_chains.sets_of(cell.stored)[number], list(names))
                    before, function = function, borders.after(function, number)
                    lost = lost + [(count - 1, name) for name in names]
                    with self.subTest(cell.row, count=count, lost=lost):
                        self.assertEqual(slow_chains.border_function(cell, count, lost), function)
                        self.assertEqual(slow_chains.one_more(cell, before, names), function)
                        self.assertIs(bool(slow_chains.untold(cell, count, lost)), borders.broken(function))
                    seen.add(function)
        self.assertGreater(len(seen), 80)


class ExampleTest(unittest.TestCase):
    def test_example_of_the_document(self):
        self.assertEqual([(), ((2, "x"),), (1, ((0, "q"), (0, "x"))), "(0)", "(1)"], [
            untold(CELL, 3, ((0, "q"), (0, "x"))), untold(CELL, 3, ((2, "q"), (2, "x"))), first_break(CELL),
            str(harmed(CELL, 1)), str(harmed(CELL, 2))])
        self.assertEqual([None, "(0)", "0(1)", 2, 3], [
            least_break(CLOSED, 1), str(harmed(CLOSED, 2)), str(harmed(CLOSED, 3)), first_break(CLOSED)[0],
            len(first_break(CLOSED)[1])])


if __name__ == "__main__":
    unittest.main()
