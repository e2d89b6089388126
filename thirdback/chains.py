"""Chains of cells alike: which losses harm, however many cells there are."""

from thirdback.beginnings import Beginning
from thirdback.borders import Borders, fewest_losses, lost_on_the_way, next_level
from thirdback.checks import check_chosen, check_names, is_number, is_one_of
from thirdback.errors import (
    Clash, InvalidLost, InvalidNames, InvalidNumber, InvalidRows, InvalidTriples, NotACell, WrongValue)
from thirdback.kinds import Kind, check_kind
from thirdback.layouts import all_things, all_triples, got_things, wanted_things
from thirdback.lengths import Lengths
from thirdback.limits import MOST_CELLS, MOST_INNER, MOST_LOST, MOST_SIDE, MOST_STORED, MOST_TRIPLES

_ROW_LENGTH = 9


class Cell:
    """One of the cells of which chains are made. Cells never change."""

    def __init__(self, kind, ins, inner, outs, triples, *, stored, wanted, begin=(), end=()):
        check_kind(kind)
        check_names(ins, MOST_SIDE, ())
        check_names(inner, MOST_INNER, ins)
        if isinstance(outs, tuple) and len(outs) != len(ins):
            raise InvalidNames(None)
        check_names(outs, MOST_SIDE, ins + inner)
        _check_name_triples(triples, ins + inner + outs)
        check_chosen(stored, inner + outs, MOST_STORED)
        check_chosen(wanted, inner + outs)
        if len(wanted) == 0:
            raise InvalidNames(None)
        check_chosen(begin, ins)
        check_chosen(end, outs)
        self._kind = kind
        self._ins = ins
        self._inner = inner
        self._outs = outs
        self._triples = triples
        self._stored = stored
        self._wanted = wanted
        self._begin = begin
        self._end = end
        _check_clash(self)

    @classmethod
    def made(cls, row):
        """The cell with this row."""
        if not isinstance(row, tuple) or len(row) != _ROW_LENGTH:
            raise InvalidRows(None)
        text, ins, inner, outs, triples, stored, wanted, begin, end = row
        try:
            return cls(Kind.read(text), ins, inner, outs, triples, stored=stored, wanted=wanted, begin=begin, end=end)
        except WrongValue:
            raise InvalidRows(None)

    @property
    def kind(self):
        """The kind of the rules."""
        return self._kind

    @property
    def ins(self):
        """The names that are outs of the cell before."""
        return self._ins

    @property
    def inner(self):
        """The names of the cell alone."""
        return self._inner

    @property
    def outs(self):
        """The names that are ins of the next cell."""
        return self._outs

    @property
    def triples(self):
        """The triples of names."""
        return self._triples

    @property
    def stored(self):
        """The names that are kept if they are not lost."""
        return self._stored

    @property
    def wanted(self):
        """The names that are to be told."""
        return self._wanted

    @property
    def begin(self):
        """The ins of the first cell that are known."""
        return self._begin

    @property
    def end(self):
        """The outs of the last cell that are known."""
        return self._end

    @property
    def row(self):
        """All of it as a tuple, the text of the kind in its place."""
        return (str(self._kind), self._ins, self._inner, self._outs, self._triples, self._stored, self._wanted,
                self._begin, self._end)

    def __eq__(self, other):
        return isinstance(other, Cell) and self.row == other.row


def untold(cell, count, lost):
    """The ascending tuple of the wanted things of the chain that are not told without the lost ones."""
    check_cell(cell)
    check_count(count)
    check_lost(cell, count, lost)
    got = got_things(cell, count, lost)
    return tuple([thing for thing in wanted_things(cell, count) if thing not in got])


def least_break(cell, count):
    """As few lost things of this chain as can harm, an ascending tuple; None if none do."""
    check_cell(cell)
    check_count(count)
    borders = Borders(cell)
    levels = [{borders.start(): (0, None, 0)}]
    for _ in range(count):
        levels.append(next_level(borders, levels[-1], None))
    broken = [function for function in levels[-1] if borders.broken(function)]
    if len(broken) == 0:
        return None
    fewest = min([levels[-1][function][0] for function in broken])
    function = [last for last in broken if levels[-1][last][0] == fewest][0]
    lost = []
    for at in reversed(range(count)):
        _, function, number = levels[at + 1][function]
        lost = lost + [(at, name) for name in borders.lost_names(number)]
    return tuple(sorted(lost))


def first_break(cell):
    """As few lost things as can harm in any chain, and as few cells for them: (count, lost); None if none do."""
    check_cell(cell)
    borders = Borders(cell)
    found, broken = fewest_losses(borders, None)
    if broken is None:
        return None
    return found[broken][1], lost_on_the_way(borders, found, broken)


def harmed(cell, number):
    """The lengths of all counts of cells at which so many or fewer lost things can harm."""
    check_cell(cell)
    check_losses(number)
    borders = Borders(cell)
    level = {borders.start(): (0, None, 0)}
    seen = {}
    digits = ""
    key = _level_key(level)
    # What comes behind depends on the level alone, so all is the same again from a level that was there before.
    while key not in seen:
        seen[key] = len(digits)
        level = next_level(borders, level, number)
        digits = digits + ("1" if any([borders.broken(function) for function in level]) else "0")
        key = _level_key(level)
    return Lengths(digits[:seen[key]], digits[seen[key]:])


def check_cell(cell):
    """Raises NotACell for anything but a Cell."""
    if not isinstance(cell, Cell):
        raise NotACell(cell)


def check_count(count):
    """Raises InvalidNumber for anything but a number of cells."""
    if not is_number(count, 1, MOST_CELLS):
        raise InvalidNumber(count)


def check_losses(number):
    """Raises InvalidNumber for anything but a number of lost things."""
    if not is_number(number, 0, MOST_LOST):
        raise InvalidNumber(number)


def check_lost(cell, count, lost):
    """Raises InvalidLost for anything but an ascending tuple of stored things of the chain."""
    if not isinstance(lost, tuple):
        raise InvalidLost(None)
    for index, thing in enumerate(lost):
        if not _is_stored(cell, count, thing) or (index > 0 and thing <= lost[index - 1]):
            raise InvalidLost(index)


def _is_stored(cell, count, value):
    """Whether it is a stored thing of the chain."""
    return (isinstance(value, tuple) and len(value) == 2 and is_number(value[0], 0, count - 1)
            and is_one_of(value[1], cell.stored))


def _check_name_triples(triples, names):
    """Raises InvalidTriples for anything but a tuple of at most eight triples of these names."""
    if not isinstance(triples, tuple):
        raise InvalidTriples(None)
    for index, triple in enumerate(triples):
        if index == MOST_TRIPLES or not isinstance(triple, tuple) or len(triple) != 3:
            raise InvalidTriples(index)
        if not all([is_one_of(name, names) for name in triple]):
            raise InvalidTriples(index)


def _check_clash(cell):
    """Raises Clash with the index of the first triple that makes a clash in a chain of two cells."""
    numbers = {thing: number for number, thing in enumerate(all_things(cell, 2))}
    triples = [tuple([numbers[thing] for thing in triple]) for triple in all_triples(cell, 2)]
    half = len(cell.triples)
    both = tuple([triple for pair in zip(triples[:half], triples[half:]) for triple in pair])
    size = len(numbers)
    try:
        Beginning(cell.kind, size, both)
    except Clash as clash:
        raise Clash(clash.index // 2)


def _level_key(level):
    """The functions of a level with their fewest losses, in order."""
    return tuple(sorted([(function, level[function][0]) for function in level]))
