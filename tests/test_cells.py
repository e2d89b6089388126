"""The cells of thirdback.chains (points 2 to 5 and 15)."""

import random
import unittest

import slow_chains
from common import A, EQUAL_TO_ALL, KINDS, NO_NAMES, NO_TUPLES, ODD_VALUES, WRONG_KINDS, assert_error, indexed
from thirdback import chains as module
from thirdback.chains import Cell
from thirdback.errors import Clash, InvalidNames, InvalidRows, InvalidTriples
from thirdback.kinds import Kind

PLAIN = Kind("plain")
INS, INNER, OUTS = ("p", "r", "t"), ("x", "y", "z", "u", "v", "w"), ("q", "s", "o")
EIGHT = (("p", "x", "q"), ("r", "y", "s"), ("t", "z", "o"), ("x", "y", "z"), ("u", "v", "w"), ("x", "u", "p"),
         ("w", "w", "y"), ("p", "x", "q"))
PARTS = {"kind": PLAIN, "ins": INS, "inner": INNER, "outs": OUTS, "triples": EIGHT,
         "stored": ("q", "x", "w", "o", "y", "s"),
         "wanted": ("o", "w", "v", "u", "z", "y", "x", "s", "q"), "begin": ("t", "p", "r"), "end": ("s", "q", "o")}
ORDER = tuple(PARTS)
BY_NAME = ("stored", "wanted", "begin", "end")
CELL = Cell(**PARTS)
NO_CELLS = ODD_VALUES + (A, PLAIN, Cell, CELL.row, (CELL,), [CELL])


def names_of(right, wrong, *, limit=None, empty=True, repeated=True):
    """Wrong tuples of names in the place of the right one, with the index in the error."""
    rows = [(value, None) for value in NO_TUPLES + (list(right), "".join(right), {name: 1 for name in right}, CELL)]
    rows += [((value,) + right[1:], 0) for value in wrong]
    rows += [(right[:at] + (value,) + right[at + 1:], at) for at in range(len(right)) for value in wrong[::5]]
    if repeated:
        rows += [(right[:at] + (right[0],) + right[at + 1:], at) for at in range(1, len(right))]
    if limit is not None:
        rows += [(right + (right[0],), limit), (right + ("a1",), limit), (right + (None, "X"), limit),
                 (right * 3, limit)]
    if not empty:
        rows.append(((), None))
    return rows


def unknown(*known):
    """Values that are none of these names."""
    return tuple([value for value in ODD_VALUES + ("p", "x", "q", "r", "s", "w", "a1", "X", "", "p ", A, EQUAL_TO_ALL)
                  if not isinstance(value, str) or value not in known])


WRONG = {
    "kind": [(value, error, "given", value) for value, error, _, _ in WRONG_KINDS],
    "ins": indexed(InvalidNames, names_of(INS, NO_NAMES, limit=3)),
    "inner": indexed(InvalidNames, names_of(INNER, NO_NAMES + INS, limit=6)),
    "outs": indexed(InvalidNames, names_of(OUTS, NO_NAMES + INS + INNER) + [
        ((), None), (("q",), None), (("q", "s"), None), (("q", "s", "o", "m"), None), (("q", "q"), None),
        ((1,) * 4, None)]),
    "stored": indexed(InvalidNames, names_of(PARTS["stored"], unknown(*INNER, *OUTS), limit=6) + [
        (PARTS["stored"] + ("z",), 6), (PARTS["stored"] + ("z", "u", "v"), 6), (INNER + OUTS, 6)]),
    "wanted": indexed(InvalidNames, names_of(PARTS["wanted"], unknown(*INNER, *OUTS), empty=False) + [
        (PARTS["wanted"] + ("o",), 9), (PARTS["wanted"] + ("p", "o"), 9)]),
    "begin": indexed(InvalidNames, names_of(PARTS["begin"], unknown(*INS)) + [(INS + ("p",), 3), (INS + ("x",), 3)]),
    "end": indexed(InvalidNames, names_of(PARTS["end"], unknown(*OUTS)) + [(OUTS + ("o",), 3), (OUTS + ("p",), 3)]),
}
NO_TRIPLES = ODD_VALUES + (
    ("p", "x"), ("p",), ("p", "x", "q", "q"), ["p", "x", "q"], "pxq", ("p", "x", "m"), ("P", "x", "q"), ("p", "", "q"),
    ("p", "x", None), ("p", "x", 0), ("p", ("x",), "q"), (["p"], "x", "q"), ({}, [], ()), (EQUAL_TO_ALL, "x", "q"), A,
    ("p", "x ", "q"), (("p", "x", "q"),))
WRONG["triples"] = indexed(InvalidTriples, (
    [(value, None) for value in NO_TUPLES + ([("p", "x", "q")], "pxq", CELL)]
    + [((value,), 0) for value in NO_TRIPLES]
    + [(EIGHT[:at] + (value,) + EIGHT[at + 1:], at) for at in range(8) for value in NO_TRIPLES[::4]]
    + [(EIGHT + (EIGHT[0],), 8), (EIGHT + (None,), 8), (EIGHT * 2, 8), (EIGHT[:7] + (None,) + EIGHT, 7)]))


class MakingTest(unittest.TestCase):
    def test_what_it_holds(self):
        for kind in KINDS:
            parts = {**PARTS, "kind": kind, "triples": EIGHT[:1] + EIGHT[3:5]}
            passed = [parts[name] for name in ORDER if name not in BY_NAME]
            for cell in (Cell(**parts), Cell(*passed, **{name: parts[name] for name in BY_NAME}),
                         Cell(**{name: parts[name] for name in ORDER[::-1]})):
                self.assertIs(Cell, cell.__class__)
                self.assertEqual([parts[name] for name in ORDER], [getattr(cell, name) for name in ORDER])
                self.assertEqual((str(kind), *[parts[name] for name in ORDER[1:]]), cell.row)
                self.assertTrue(cell)

    def test_what_need_not_be_passed(self):
        cell = Cell(PLAIN, ("p",), (), ("q",), (), stored=(), wanted=("q",))
        self.assertEqual(((), ()), (cell.begin, cell.end))
        self.assertEqual(("plain", ("p",), (), ("q",), (), (), ("q",), (), ()), cell.row)
        with self.assertRaises(TypeError):
            Cell(PLAIN, ("p",), (), ("q",), (), (), ("q",))
        with self.assertRaises(TypeError):
            Cell(PLAIN, ("p",), (), ("q",), (), stored=())

    def test_as_small_as_can_be(self):
        cell = Cell(PLAIN, (), ("x",), (), (), stored=(), wanted=("x",))
        self.assertEqual(("plain", (), ("x",), (), (), (), ("x",), (), ()), cell.row)

    def test_each_number_of_names(self):
        for side in range(4):
            for inner in range(7):
                if side + inner > 0:
                    own = INNER[:inner] + OUTS[:side]
                    cell = Cell(PLAIN, INS[:side], INNER[:inner], OUTS[:side], (), stored=own[-6:], wanted=own)
                    self.assertEqual((side, inner, own), (len(cell.ins), len(cell.inner), cell.wanted))

    def test_wrong_arguments_in_order(self):
        for at, name in enumerate(ORDER):
            behind = {later: WRONG[later][0][0] for later in ORDER[at + 1:]}
            for value, error, attribute, expected in WRONG[name]:
                for others in ({}, behind):
                    if name == "ins" and others == {}:
                        others = {"outs": OUTS, "inner": INNER}
                    passed = {**PARTS, name: value, **others}
                    with self.subTest(name=name, value=value, others=list(others)):
                        assert_error(self, error, attribute, expected, lambda: Cell(**passed))
                        first = [passed[other] for other in ORDER if other not in BY_NAME]
                        named = {other: passed[other] for other in BY_NAME}
                        assert_error(self, error, attribute, expected, lambda: Cell(*first, **named))

    def test_outs_are_counted_before_they_are_looked_at(self):
        for outs, index in ((("p", 1, "x"), 0), (("q", 1), None), ((1, 2), None), ((), None),
                            (("q", "s", "o", 1), None),
                            (("q", "s", "q"), 2), (("q", "p", "q"), 1), (("q", "x", "q"), 1)):
            assert_error(self, InvalidNames, "index", index, lambda: Cell(**{**PARTS, "outs": outs}))

    def test_never_changes(self):
        for name in ORDER + ("row",):
            with self.subTest(name), self.assertRaises(AttributeError):
                setattr(CELL, name, ())
        self.assertEqual(PARTS["inner"], CELL.inner)


class ClashTest(unittest.TestCase):
    def test_the_first_triple_with_which_there_is_a_clash(self):
        source = random.Random(100)
        for kind in KINDS:
            indexes = set()
            for _ in range(250):
                side = source.randint(0, 3)
                ins, outs, inner = INS[:side], OUTS[:side], INNER[:source.randint(1, 3)]
                triples = tuple([tuple(source.choices(ins + inner + outs, k=3)) for _ in range(source.randint(0, 6))])
                expected = slow_chains.first_clash(kind, ins, inner, outs, triples)
                with self.subTest(str(kind), ins=ins, inner=inner, triples=triples):
                    self.assertEqual(expected, slow_chains.clash_of(
                        kind, ins, inner, outs, triples, stored=(), wanted=("x",)))
                indexes.add(expected)
            self.assertTrue({None, 1, 2, 3} <= indexes)

    def test_written_out(self):
        for triples, expected in (
                ((("p", "x", "q"), ("p", "x", "y")), 1), ((("p", "x", "q"), ("p", "y", "q")), 1),
                ((("p", "x", "q"), ("y", "x", "q")), 1), ((("p", "x", "q"), ("p", "x", "q")), None),
                # Only in two cells: the out of the one is the in of the other.
                ((("p", "p", "x"), ("q", "q", "y")), 1), ((("q", "q", "y"), ("z", "z", "z"), ("p", "p", "x")), 2),
                ((("p", "x", "q"), ("q", "x", "p")), None), ((("p", "q", "q"),), None),
                ((("p", "r", "q"), ("q", "s", "p")), 1), ((("p", "r", "s"), ("r", "p", "q")), None)):
            self.assertEqual(expected, slow_chains.clash_of(
                PLAIN, ("p", "r"), ("x", "y", "z"), ("q", "s"), triples, stored=(), wanted=("x",)), triples)

    def test_with_images_and_with_things_themselves(self):
        for kind in KINDS:
            for triples, expected in (
                    ((("x", "y", "z"), ("y", "x", "u")), 1 if kind.turns in ("sides", "all") else None),
                    ((("x", "y", "z"), ("y", "z", "u")), 1 if kind.turns in ("round", "all") else None),
                    ((("x", "x", "y"),), 0 if kind.calm else None), ((("x", "y", "z"), ("p", "q", "p")),
                                                                     1 if kind.calm else None),
                    ((("x", "x", "x"), ("y", "y", "y")), None)):
                self.assertEqual(expected, slow_chains.clash_of(
                    kind, ("p",), ("x", "y", "z", "u"), ("q",), triples, stored=(), wanted=("x",)))

    def test_clash_comes_last(self):
        parts = {**PARTS, "triples": (("p", "x", "q"), ("p", "x", "y"))}
        assert_error(self, Clash, "index", 1, lambda: Cell(**parts))
        for name in BY_NAME:
            assert_error(self, InvalidNames, "index", None, lambda: Cell(**{**parts, name: None}))


class RowTest(unittest.TestCase):
    def test_made_of_its_row(self):
        source = random.Random(101)
        for kind in KINDS:
            for _ in range(30):
                cell = slow_chains.random_cell(source, kind)
                for again in (Cell.made(cell.row), Cell.made(row=cell.row)):
                    self.assertIs(Cell, again.__class__)
                    self.assertEqual(cell.row, again.row)
                    self.assertEqual(cell, again)
                    self.assertEqual(kind, again.kind)

    def test_what_is_no_row(self):
        row = CELL.row
        wrong = list(ODD_VALUES) + [CELL, list(row), row[:8], row + ((),), (PLAIN,) + row[1:], ("Plain",) + row[1:],
                                    (row,),
                                    ("calm",) + row[1:], {at: part for at, part in enumerate(row)}, "", A, EQUAL_TO_ALL]
        for at, name in enumerate(ORDER):
            if name != "kind":
                wrong += [row[:at] + (value,) + row[at + 1:] for value, _, _, _ in WRONG[name]]
        wrong += [row[:4] + ((("p", "x", "q"), ("p", "x", "y")),) + row[5:], (None,) * 9, ((),) * 9, ("plain",) * 9]
        for value in wrong:
            with self.subTest(value):
                assert_error(self, InvalidRows, "index", None, lambda: Cell.made(value))
                assert_error(self, InvalidRows, "index", None, lambda: Cell.made(row=value))

    def test_equality(self):
        changed = {"kind": Kind("plain", calm=True), "inner": INNER[::-1], "triples": EIGHT[:3], "stored": ("x",),
                   "wanted": ("x",), "begin": ("p",), "end": ()}
        found = [CELL] + [Cell(**{**PARTS, "triples": EIGHT[:2], name: value}) for name, value in changed.items()]
        found.append(Cell(**{**PARTS, "ins": ("p", "t", "r"), "outs": ("q", "o", "s")}))
        for i, one in enumerate(found):
            for j, other in enumerate(found):
                again = Cell.made(tuple(list(other.row)))
                self.assertIs(i == j, one == again)
                self.assertIs(i != j, one != again)
        for value in NO_CELLS:
            with self.subTest(value):
                self.assertIs(False, CELL == value)
                self.assertIs(False, value == CELL)
                self.assertIs(True, CELL != value)


class PlaceTest(unittest.TestCase):
    def test_everything_stands_in_its_class_and_file(self):
        for name in ("Cell", "untold", "least_break", "first_break", "harmed"):
            self.assertEqual("thirdback.chains", getattr(module, name).__module__)
        for name in ORDER + ("row", "made", "__eq__"):
            self.assertIn(name, vars(Cell))


if __name__ == "__main__":
    unittest.main()
