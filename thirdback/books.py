"""Books: stores, scripts and cells under names, and wishes that hold after each change."""

from thirdback.borders import Borders, fewest_losses
from thirdback.chains import Cell
from thirdback.checks import is_name, is_number, is_one_of
from thirdback.errors import (
    Broken, InUse, InvalidIndex, InvalidName, InvalidWish, NotAStore, NothingToUndo, UnknownName)
from thirdback.formulas import Formula
from thirdback.limits import MOST_BOXES, MOST_FORMULAS, MOST_LOST, MOST_ROWS
from thirdback.scripts import Script, reachable
from thirdback.stores import Store, boxes_tell, strength

_GREATEST_STRENGTH = 7


class Book:
    """Systems under names, and wishes for them. A book changes by its methods, by setting items and in trials."""

    def __init__(self):
        self._page = Page({}, (), None)

    @property
    def names(self):
        """The ascending tuple of the names."""
        return self._page.titles

    @property
    def wishes(self):
        """The tuple of the wishes."""
        return self._page.wished

    @property
    def changes(self):
        """How many changes can be taken back."""
        return self._page.depth

    def remove(self, name):
        """Takes away what stands under the name."""
        page = self._page
        if name not in self:
            raise UnknownName(name)
        for index, wish in enumerate(page.wished):
            if wish[1] == name:
                raise InUse(index)
        self._page = Page({other: page.systems[other] for other in page.systems if other != name}, page.wished, page)

    def wish(self, wish):
        """Makes one wish more, behind the others."""
        page = self._page
        if not _is_wish(wish):
            raise InvalidWish(wish)
        if wish[1] not in self:
            raise UnknownName(wish[1])
        if not _wish_holds(wish, page.systems[wish[1]]):
            raise Broken(len(page.wished))
        self._page = Page(page.systems, page.wished + (wish,), page)

    def lift(self, index):
        """Takes the wish at this index away."""
        page = self._page
        if not is_number(index, 0, len(page.wished) - 1):
            raise InvalidIndex(index)
        self._page = Page(page.systems, page.wished[:index] + page.wished[index + 1:], page)

    def undo(self):
        """Takes back the last change that has not been taken back."""
        if self._page.earlier is None:
            raise NothingToUndo()
        self._page = self._page.earlier

    def trial(self):
        """For a `with` statement; if its rows end with an exception, the book is then as it was."""
        return BookTrial(self)

    def tried(self, action):
        """What the function returns for the book; if it raises something, the book is then as it was."""
        with self.trial() as book:
            return action(book)

    def __getitem__(self, name):
        if name not in self:
            raise UnknownName(name)
        return self._page.systems[name]

    def __setitem__(self, name, system):
        page = self._page
        if not is_name(name):
            raise InvalidName(name)
        if not isinstance(system, Store) and not isinstance(system, Script) and not isinstance(system, Cell):
            raise NotAStore(system)
        for index, wish in enumerate(page.wished):
            if wish[1] == name and not _wish_holds(wish, system):
                raise Broken(index)
        self._page = Page({**page.systems, name: system}, page.wished, page)

    def __contains__(self, value):
        return is_one_of(value, self._page.systems)

    def __iter__(self):
        return iter(self._page.titles)

    def __len__(self):
        return len(self._page.titles)

    def __bool__(self):
        return True

    def __eq__(self, other):
        # A page is equal to itself alone, and no two books share one.
        return isinstance(other, Book) and self._page == other._page


class Page:
    """What a book is between two changes. Pages never change, so that a book can go back to one.

    `systems` is a dict from each name to what stands under it, `wished` the tuple of the wishes, `earlier` the page
    before the last change, None at first.
    """

    def __init__(self, systems, wished, earlier):
        self.systems = systems
        self.wished = wished
        self.earlier = earlier
        self.titles = tuple(sorted(systems))
        self.depth = 0 if earlier is None else earlier.depth + 1


class BookTrial:
    """For one `with` statement, behind which a book is as it was if the rows end with an exception."""

    def __init__(self, book):
        self._book = book
        self._page = None

    def __enter__(self):
        self._page = self._book._page
        return self._book

    def __exit__(self, kind, value, trace):
        book = self._book
        if kind is not None:
            book._page = self._page


def _is_wish(value):
    """Whether it is a tuple of one of the four forms."""
    if not isinstance(value, tuple) or not 3 <= len(value) <= 4 or not is_name(value[1]):
        return False
    if is_one_of(value[0], ("strong", "tells")):
        return len(value) == 4 and _is_store_wish(value[0], value[2], value[3])
    if is_one_of(value[0], ("never", "withstands")):
        return len(value) == 3 and is_number(value[2], 0, MOST_ROWS if value[0] == "never" else MOST_LOST)
    return False


def _is_store_wish(word, one, other):
    """Whether these two stand rightly behind the name of a store."""
    if not isinstance(one, tuple):
        return False
    if word == "strong":
        are_formulas = all([isinstance(formula, Formula) for formula in one])
        return are_formulas and 1 <= len(one) <= MOST_FORMULAS and is_number(other, 0, _GREATEST_STRENGTH)
    are_names = all([is_name(name) and name not in one[:index] for index, name in enumerate(one)])
    return are_names and len(one) <= MOST_BOXES and isinstance(other, Formula)


def _wish_holds(wish, system):
    """Whether the wish holds for what stands under its name."""
    word = wish[0]
    if word == "strong":
        return isinstance(system, Store) and strength(system, wish[2]) >= wish[3]
    if word == "tells":
        return (isinstance(system, Store) and all([name in system for name in wish[2]])
                and boxes_tell(system, wish[2], wish[3]))
    if word == "never":
        return isinstance(system, Script) and len(system) >= wish[2] and wish[2] not in reachable(system)
    if not isinstance(system, Cell):
        return False
    _, broken = fewest_losses(Borders(system), wish[2])
    return broken is None
