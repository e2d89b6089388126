"""The books of thirdback.books (points 2 to 5 and 17)."""

import random
import unittest

import slow
import slow_chains
import slow_scripts
from common import A, B, C, EQUAL_TO_ALL, KINDS, NO_FORMULAS, NO_NAMES, NO_TUPLES, ODD_VALUES, assert_error
from thirdback import books as module
from thirdback.books import Book
from thirdback.chains import Cell, harmed
from thirdback.errors import (
    Broken, InUse, InvalidIndex, InvalidName, InvalidWish, NotAStore, NothingToUndo, UnknownName)
from thirdback.formulas import letter
from thirdback.kinds import Kind
from thirdback.scripts import Script
from thirdback.stores import Store, strength
from thirdback.vaults import Vault

PLAIN = Kind("plain")
STORE = Store(PLAIN, (("x", A), ("y", B), ("s", A * B), ("t", A * (A * B))))
WEAK = Store(PLAIN, (("x", A), ("y", B)))
SCRIPT = Script(PLAIN, ("a", "b"), ("same a a 2", "a = b", "b = a"))
OTHER = Script(PLAIN, ("a", "b"), ("same a b 2", "a = b", "b = a"))
OPEN = Cell(PLAIN, ("p",), ("x",), ("q",), (("p", "x", "q"),), stored=("x", "q"), wanted=("x",), begin=("p",))
CLOSED = Cell(PLAIN, ("p",), ("x",), ("q",), (("p", "x", "q"),), stored=("x", "q"), wanted=("x",), begin=("p",),
              end=("q",))
NO_SYSTEMS = ODD_VALUES + (A, PLAIN, Store, (STORE,), [STORE], str(SCRIPT), CLOSED.row, Vault(PLAIN, ("a",)), Book())
NOT_THERE = tuple([value for value in ODD_VALUES if value != "a"]) + (
    "z", "x", "A", "shelf ", " shelf", "Shelf", ("shelf",), ["shelf"], STORE, A, EQUAL_TO_ALL)
SIX = (A, B, C, A * B, A, B)
EIGHT = tuple([f"n{at}" for at in range(8)])


def picture(book):
    """All that can be seen of a book."""
    return book.names, [book[name] for name in book], book.wishes, book.changes, len(book), list(book)


def filled():
    """A book with something of each sort and a wish of each form."""
    book = Book()
    for name, system in (("shelf", STORE), ("rows", SCRIPT), ("row", CLOSED), ("more", WEAK)):
        book[name] = system
    for wish in (("strong", "shelf", (A, B), 1), ("tells", "shelf", ("s", "t"), A), ("never", "rows", 1),
                 ("withstands", "row", 2)):
        book.wish(wish)
    return book


class MakingTest(unittest.TestCase):
    def test_at_first(self):
        book = Book()
        self.assertEqual(((), [], (), 0, 0, []), picture(book))
        self.assertTrue(book)
        self.assertNotIn("a", book)
        with self.assertRaises(TypeError):
            Book(1)

    def test_two_books_are_never_equal(self):
        self.assertIs(False, Book() == Book())
        self.assertIs(True, filled() != filled())
        for value in NO_SYSTEMS + (EQUAL_TO_ALL, Book, STORE):
            self.assertIs(False, Book() == value)
            self.assertIs(True, Book() != value)
        book = filled()
        self.assertIs(True, book == book)

    def test_what_cannot_be_set(self):
        for name in ("names", "wishes", "changes"):
            with self.assertRaises(AttributeError):
                setattr(filled(), name, ())


class PuttingTest(unittest.TestCase):
    def test_putting_and_asking(self):
        book = Book()
        for count, (name, system) in enumerate((("m", STORE), ("z", SCRIPT), ("a", OPEN), ("a0", WEAK), ("m", OTHER))):
            book[name] = system
            self.assertIs(system, book[name])
            self.assertEqual(count + 1, book.changes)
            self.assertIs(True, name in book)
        self.assertEqual((("a", "a0", "m", "z"), ["a", "a0", "m", "z"], 4), (book.names, list(book), len(book)))
        self.assertIs(OTHER, book["m"])
        self.assertTrue(book)

    def test_names_that_are_not_there(self):
        book = filled()
        before = picture(book)
        for name in NOT_THERE:
            with self.subTest(name):
                self.assertIs(False, name in book)
                assert_error(self, UnknownName, "given", name, lambda: book[name])
                assert_error(self, UnknownName, "given", name, lambda: book.remove(name))
                assert_error(self, UnknownName, "given", name, lambda: book.remove(name=name))
        self.assertEqual(before, picture(book))

    def test_wrong_names_and_systems_in_order(self):
        book = filled()
        before = picture(book)
        for name in NO_NAMES:
            for system in (STORE, None):
                assert_error(self, InvalidName, "given", name, lambda: book.__setitem__(name, system))
        for system in NO_SYSTEMS:
            for name in ("new", "shelf"):
                assert_error(self, NotAStore, "given", system, lambda: book.__setitem__(name, system))
        self.assertEqual(before, picture(book))

    def test_removing(self):
        book = filled()
        self.assertIsNone(book.remove("more"))
        self.assertEqual((("row", "rows", "shelf"), 9), (book.names, book.changes))
        before = picture(book)
        for name, index in (("shelf", 0), ("rows", 2), ("row", 3)):
            assert_error(self, InUse, "index", index, lambda: book.remove(name))
        self.assertEqual(before, picture(book))
        book.lift(0)
        assert_error(self, InUse, "index", 0, lambda: book.remove("shelf"))
        book.lift(0)
        book.remove(name="shelf")
        self.assertEqual(("row", "rows"), book.names)

    def test_iterating(self):
        book = filled()
        found = []
        for name in book:
            found.append(name)
            book[f"z{len(found)}"] = STORE
        self.assertEqual(["more", "row", "rows", "shelf"], found)
        first, second = iter(book), iter(book)
        self.assertEqual(["more", "more", "row"], [next(first), next(second), next(first)])


class WishTest(unittest.TestCase):
    def test_all_four_forms(self):
        book = filled()
        self.assertEqual((("strong", "shelf", (A, B), 1), ("tells", "shelf", ("s", "t"), A), ("never", "rows", 1),
                          ("withstands", "row", 2)), book.wishes)
        self.assertEqual(8, book.changes)
        self.assertIsNone(book.wish(wish=("strong", "shelf", (A, B), 0)))
        self.assertEqual((9, ("strong", "shelf", (A, B), 0)), (book.changes, book.wishes[-1]))

    def test_wishes_at_the_limits(self):
        book = Book()
        book["shelf"] = Store(PLAIN, tuple([(name, A) for name in EIGHT]))
        book["rows"] = Script(PLAIN, ("a", "b"), ("go 2", "a = b") + ("a = b",) * 9 + ("b = a",))
        book["row"] = Cell(PLAIN, ("p",), (), ("q",), (("p", "p", "q"),), stored=("q",), wanted=("q",), begin=("p",))
        for wish in (("strong", "shelf", (A,), 0), ("strong", "shelf", (A,) * 6, 7), ("tells", "shelf", EIGHT, A * A),
                     ("tells", "shelf", ("n3",), A), ("never", "rows", 1), ("withstands", "row", 0),
                     ("withstands", "row", 9)):
            book.wish(wish)
        for wish in (("strong", "shelf", (B,) * 6, 0), ("tells", "shelf", (), A), ("tells", "shelf", ("n0", "m0"), A),
                     ("tells", "shelf", ("m0",), A), ("tells", "shelf", EIGHT, B), ("never", "rows", 0),
                     ("never", "rows", 12)):
            assert_error(self, Broken, "index", 7, lambda: book.wish(wish))
        self.assertEqual((7, 10), (len(book.wishes), book.changes))

    def test_what_is_no_wish(self):
        book = filled()
        before = picture(book)
        no_numbers = (None, True, False, -1, "1", (1,), [1], A, 10 ** 39, EQUAL_TO_ALL)
        wrong = list(ODD_VALUES) + [A, STORE, EQUAL_TO_ALL, ("strong",), ("strong", "shelf"), ("strong", "shelf", (A,))]
        words = ODD_VALUES + ("Strong", "strong ", "tell", "never", "withstands", EQUAL_TO_ALL)
        wrong += [(word, "shelf", (A,), 1) for word in words]
        wrong += [(word, "rows", 1) for word in ODD_VALUES + ("Never", "never ", "strong", "tells", EQUAL_TO_ALL)]
        wrong += [("strong", "shelf", (A,), number) for number in no_numbers + (8,)]
        no_wanted = NO_TUPLES + ((), SIX + (A,), [A], A, (None,), (A, "b"), ("a",), (A, 1))
        wrong += [("strong", "shelf", wanted, 1) for wanted in no_wanted]
        wrong += [("strong", "shelf", (A,), 1, 1), ["strong", "shelf", (A,), 1], ("strong", "shelf", [A], 1),
                  ("strong", "rows", 1)]
        no_kept = NO_TUPLES + (EIGHT + ("n8",), ["s"], "s", ("s", "s"), ("S",), ("s", None), (A,), (1,), (("s",),),
                               ("s", "t", "s"), (EQUAL_TO_ALL,))
        wrong += [("tells", "shelf", kept, A) for kept in no_kept]
        wrong += [("tells", "shelf", ("s",), wanted) for wanted in NO_FORMULAS + ((A,), "a")]
        wrong += [("tells", "shelf", ("s",)), ("tells", "shelf", ("s",), A, A), ("tells", "shelf", "s", A)]
        wrong += [("never", "rows", number) for number in no_numbers + (13,)]
        wrong += [("never", "rows"), ("never", "rows", 1, 1), ["never", "rows", 1], ("never", "rows", (A,), 1)]
        wrong += [("withstands", "row", number) for number in no_numbers + (10,)]
        wrong += [("withstands", "row"), ("withstands", "row", 1, 2)]
        for name in NO_NAMES:
            wrong += [("strong", name, (A,), 1), ("tells", name, ("s",), A), ("never", name, 1),
                      ("withstands", name, 1)]
        for wish in wrong:
            with self.subTest(wish):
                assert_error(self, InvalidWish, "given", wish, lambda: book.wish(wish))
                assert_error(self, InvalidWish, "given", wish, lambda: book.wish(wish=wish))
        self.assertEqual(before, picture(book))

    def test_names_that_are_not_there_ahead_of_what_is_broken(self):
        book = filled()
        before = picture(book)
        for wish in (("strong", "none", (A,), 7), ("tells", "z", ("z",), A), ("never", "shelf0", 0),
                     ("withstands", "r", 9)):
            assert_error(self, UnknownName, "given", wish[1], lambda: book.wish(wish))
        self.assertEqual(before, picture(book))

    def test_wishes_that_do_not_hold(self):
        book = filled()
        before = picture(book)
        for wish in (("strong", "shelf", (A, B), 2), ("strong", "shelf", (C,), 0), ("strong", "more", (A, B), 1),
                     ("tells", "shelf", ("s",), A), ("tells", "shelf", (), A), ("tells", "shelf", ("s", "u"), A),
                     ("never", "rows", 0), ("never", "rows", 2), ("never", "rows", 3), ("never", "rows", 4),
                     ("never", "rows", 12), ("withstands", "row", 3), ("withstands", "row", 9),
                     ("strong", "rows", (A,), 0), ("strong", "row", (A,), 0), ("tells", "rows", (), A),
                     ("tells", "row", ("x",), A), ("never", "shelf", 1), ("never", "row", 1),
                     ("withstands", "shelf", 0), ("withstands", "rows", 0)):
            with self.subTest(wish):
                assert_error(self, Broken, "index", 4, lambda: book.wish(wish))
        self.assertEqual(before, picture(book))

    def test_after_each_change_all_wishes_hold(self):
        book = filled()
        before = picture(book)
        for name, system, index in (
                ("shelf", WEAK, 0), ("shelf", SCRIPT, 0), ("shelf", OPEN, 0), ("rows", OTHER, 2), ("rows", STORE, 2),
                ("row", OPEN, 3), ("row", STORE, 3), ("row", SCRIPT, 3), ("shelf", STORE.changed("t", C), 1),
                ("shelf", STORE.changed("s", C), 0), ("rows", Script(PLAIN, ("a",), ("a = a",)), 2)):
            with self.subTest(name, index=index):
                assert_error(self, Broken, "index", index, lambda: book.__setitem__(name, system))
        self.assertEqual(before, picture(book))
        jumping = Script(Kind("all"), ("z",), ("go 2", "z = z", "z = z"))
        for name, system in (("shelf", STORE.changed("u", A)), ("rows", jumping), ("more", CLOSED), ("new", SCRIPT),
                             ("row", CLOSED)):
            book[name] = system
        self.assertEqual(13, book.changes)

    def test_the_first_broken_wish_counts(self):
        book = filled()
        book.wish(("strong", "shelf", (A,), 0))
        book.lift(0)
        self.assertEqual("tells", book.wishes[0][0])
        assert_error(self, Broken, "index", 0, lambda: book.__setitem__("shelf", SCRIPT))
        book.lift(0)
        assert_error(self, Broken, "index", 2, lambda: book.__setitem__("shelf", SCRIPT))

    def test_against_the_definitions(self):
        source = random.Random(130)
        found = {}
        for kind in KINDS:
            for _ in range(12):
                for word, system, wish, expected in self.questions(source, kind):
                    book = Book()
                    book["a"] = system
                    with self.subTest(str(kind), wish=wish):
                        if expected:
                            book.wish(wish)
                            self.assertEqual((wish,), book.wishes)
                        else:
                            assert_error(self, Broken, "index", 0, lambda: book.wish(wish))
                    found.setdefault(word, []).append(expected)
        for results in found.values():
            self.assertTrue(10 < results.count(True) < len(results) - 10)

    def questions(self, source, kind):
        """A wish of each form with the system under its name, and whether it holds by the definitions."""
        trees = [slow.random_tree(source, "ab", source.choice((0, 0, 1, 2))) for _ in range(source.randint(1, 5))]
        wanted = slow.random_tree(source, "ab", source.choice((0, 0, 1)))
        kept = sorted(source.sample(range(len(trees)), source.randint(0, len(trees))))
        store = Store(kind, tuple([(f"n{at}", slow.made_of(tree)) for at, tree in enumerate(trees)]))
        yield "tells", store, ("tells", "a", tuple([f"n{at}" for at in kept]), slow.made_of(wanted)), slow.got(
            kind, (), [trees[at] for at in kept], wanted)
        formulas, number = (slow.made_of(wanted),), source.randint(0, 2)
        yield "strong", store, ("strong", "a", formulas, number), strength(store, formulas) >= number
        _, boxes, rows = next(slow_scripts.random_scripts(source, [kind], 1))
        reached, row = slow_scripts.reachable(kind, boxes, rows), source.randint(0, min(12, len(rows) + 1))
        rare = [row for row in range(len(rows)) if row not in reached]
        row = rare[0] if rare else row
        yield "never", Script(kind, boxes, rows), ("never", "a", row), row <= len(rows) and row not in reached
        cell, number = slow_chains.useful_cell(source, kind), source.randint(0, 2)
        harms = any(slow_chains.fewest(cell, count, number) is not None for count in (1, 2, 3))
        # Where three cells are not enough for a break, `harmed` is asked, which has tests of its own.
        yield "withstands", cell, ("withstands", "a", number), not harms and not harmed(cell, number)


class LiftTest(unittest.TestCase):
    def test_lifting(self):
        book = filled()
        wishes = book.wishes
        self.assertIsNone(book.lift(1))
        self.assertEqual(wishes[:1] + wishes[2:], book.wishes)
        book.lift(index=2)
        self.assertEqual((wishes[0], wishes[2]), book.wishes)
        book.lift(0)
        book.lift(0)
        self.assertEqual(((), 12), (book.wishes, book.changes))
        for value in (0, 1, -1):
            assert_error(self, InvalidIndex, "given", value, lambda: book.lift(value))

    def test_no_index_of_a_wish(self):
        book = filled()
        before = picture(book)
        for value in [value for value in ODD_VALUES if isinstance(value, bool) or value not in (0, 1)] + [
                -1, -4, 4, 5, "0", (0,), [1], book.wishes[0], EQUAL_TO_ALL]:
            with self.subTest(value):
                assert_error(self, InvalidIndex, "given", value, lambda: book.lift(value))
                assert_error(self, InvalidIndex, "given", value, lambda: book.lift(index=value))
        self.assertEqual(before, picture(book))


def random_change(source, book):
    """Tries one change; whether it was made."""
    systems = (STORE, WEAK, SCRIPT, OTHER, OPEN, CLOSED)
    name = source.choice(("a", "b", "c"))
    try:
        choice = source.randrange(5)
        if choice == 0:
            book.remove(name)
        elif choice == 1:
            book.lift(source.randrange(4))
        elif choice == 2:
            book.wish(source.choice((("strong", name, (A, B), source.randrange(3)), ("tells", name, ("x", "s"), B),
                                     ("never", name, source.randrange(3)), ("withstands", name, source.randrange(4)))))
        else:
            book[name] = source.choice(systems)
    except (UnknownName, InUse, InvalidIndex, Broken):
        return False
    return True


class UndoTest(unittest.TestCase):
    def test_changes_taken_back(self):
        source = random.Random(131)
        made = 0
        for _ in range(40):
            book, pictures = Book(), []
            pictures.append(picture(book))
            for _ in range(60):
                if source.random() < 0.75:
                    if random_change(source, book):
                        pictures.append(picture(book))
                        made += 1
                elif len(pictures) > 1:
                    pictures.pop()
                    self.assertIsNone(book.undo())
                self.assertEqual(pictures[-1], picture(book))
                self.assertEqual(len(pictures) - 1, book.changes)
            while len(pictures) > 1:
                pictures.pop()
                book.undo()
                self.assertEqual(pictures[-1], picture(book))
            with self.assertRaises(NothingToUndo) as caught:
                book.undo()
            self.assertEqual({}, vars(caught.exception))
        self.assertGreater(made, 500)

    def test_changes_after_which_nothing_is_different_count(self):
        book = Book()
        book["a"] = STORE
        book["a"] = STORE
        self.assertEqual(2, book.changes)
        book.undo()
        self.assertEqual((("a",), 1), (book.names, book.changes))
        book.undo()
        self.assertEqual(((), 0), (book.names, book.changes))


class TrialTest(unittest.TestCase):
    def test_changes_stay(self):
        book = filled()
        with book.trial() as tried:
            self.assertIs(book, tried)
            book["new"] = OTHER
            book.lift(3)
        self.assertEqual((10, OTHER, 3), (book.changes, book["new"], len(book.wishes)))
        book.undo()
        self.assertEqual(4, len(book.wishes))

    def test_with_an_exception_all_is_as_it_was(self):
        book = filled()
        before = picture(book)
        wrong = KeyError("wrong")
        with self.assertRaises(KeyError) as caught:
            with book.trial():
                book["new"] = OTHER
                book.lift(3)
                book["row"] = OPEN
                raise wrong
        self.assertIs(wrong, caught.exception)
        self.assertEqual(before, picture(book))
        with self.assertRaises(Broken):
            with book.trial():
                book.lift(0)
                book["rows"] = OTHER
        self.assertEqual(before, picture(book))
        with self.assertRaises(NothingToUndo):
            with book.trial():
                for _ in range(20):
                    book.undo()
        self.assertEqual(before, picture(book))
        book.undo()
        self.assertEqual(7, book.changes)

    def test_left_by_return_and_by_break(self):
        book = Book()

        def left():
            with book.trial():
                book["a"] = STORE
                return book.changes

        self.assertEqual((1, 1), (left(), book.changes))
        for _ in range(3):
            with book.trial():
                book["b"] = STORE
                break
        self.assertEqual(2, book.changes)

    def test_trials_within_trials(self):
        source = random.Random(132)
        outcomes = set()
        for _ in range(120):
            book = Book()
            for _ in range(6):
                random_change(source, book)
            before = picture(book)
            inner_fails, outer_fails = source.random() < 0.5, source.random() < 0.5
            try:
                with book.trial():
                    random_change(source, book)
                    between = picture(book)
                    try:
                        with book.trial():
                            random_change(source, book)
                            if book.changes and source.random() < 0.3:
                                book.undo()
                            inner = picture(book)
                            if inner_fails:
                                raise ZeroDivisionError()
                    except ZeroDivisionError:
                        pass
                    self.assertEqual(between if inner_fails else inner, picture(book))
                    if outer_fails:
                        raise IndexError()
            except IndexError:
                pass
            expected = before if outer_fails else between if inner_fails else inner
            self.assertEqual(expected, picture(book))
            outcomes.add((inner_fails, outer_fails))
        self.assertEqual(4, len(outcomes))

    def test_as_it_was_when_the_rows_began(self):
        book = filled()
        trial = book.trial()
        book["new"] = STORE
        before = picture(book)
        with self.assertRaises(ValueError):
            with trial:
                book.remove("new")
                raise ValueError()
        self.assertEqual(before, picture(book))
        self.assertIsNot(book.trial(), book.trial())

    def test_tried(self):
        book = Book()

        def action(tried):
            self.assertIs(book, tried)
            tried["a"] = STORE
            return tried.tried(lambda again: again.changes), "kept"

        self.assertEqual((1, "kept"), book.tried(action))
        self.assertEqual((2, "kept"), book.tried(action=action))
        self.assertEqual((("a",), 2), (book.names, book.changes))
        with self.assertRaises(ZeroDivisionError):
            book.tried(lambda tried: (tried.remove("a"), 1 // 0))
        self.assertEqual((("a",), 2), (book.names, book.changes))


class PlaceTest(unittest.TestCase):
    def test_everything_stands_in_its_class_and_file(self):
        self.assertEqual("thirdback.books", module.Book.__module__)
        for name in ("__setitem__", "__getitem__", "remove", "wish", "lift", "undo", "names", "wishes", "changes",
                     "__contains__", "__iter__", "__len__", "__bool__", "__eq__", "trial", "tried"):
            self.assertIn(name, vars(Book))

    def test_wishes_of_letters(self):
        book = Book()
        book["a"] = Store(PLAIN, (("a", letter("a")),))
        book.wish(("tells", "a", ("a",), letter("a")))
        self.assertEqual(2, book.changes)

    def test_example_of_the_document(self):
        book = Book()
        book["shelf"] = STORE
        book["row"] = CLOSED
        book.wish(("strong", "shelf", (A, B), 1))
        book.wish(("withstands", "row", 2))
        self.assertEqual([("row", "shelf"), 2, 4, True], [book.names, len(book.wishes), book.changes, "row" in book])
        assert_error(self, Broken, "index", 1, lambda: book.__setitem__("row", OPEN))


if __name__ == "__main__":
    unittest.main()
