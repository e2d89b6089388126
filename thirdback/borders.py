"""Border functions: all that the cells behind can know of the first cells of a chain with some lost things."""

from heapq import heappop, heappush

from thirdback.tables import how_got


class Borders:
    """The border functions of the chains of one cell. Sets of names are written as sums of 2**j for their indexes j."""

    def __init__(self, cell):
        self._cell = cell
        self._end = _number(cell.end, cell.outs)
        self._known = {}
        self._moves = {}
        numbers = range(1 << len(cell.stored))
        # For each set of stored names how many they are and its number, smaller ones first.
        self._losses = sorted([(len(_chosen(number, cell.stored)), number) for number in numbers])

    def start(self):
        """The border function of no cells."""
        begin = _number(self._cell.begin, self._cell.ins)
        return tuple([(number | begin, True) for number in range(1 << len(self._cell.ins))])

    def after(self, function, lost):
        """The border function of one cell more, in which these stored names are lost."""
        return tuple([self._pair(function, lost, outs) for outs in range(len(function))])

    def moves(self, function):
        """A list of (function of one cell more, how many are lost in it, number of these), each function once."""
        if function not in self._moves:
            found = {}
            for many, lost in self._losses:
                found.setdefault(self.after(function, lost), (many, lost))
            self._moves[function] = [(after, many, lost) for after, (many, lost) in found.items()]
        return list(self._moves[function])

    def broken(self, function):
        """Whether some wanted thing is not told where the chain ends with this function."""
        return not function[self._end][1]

    def lost_names(self, number):
        """The stored names of this number."""
        return _chosen(number, self._cell.stored)

    def _pair(self, function, lost, outs):
        """The pair of the function of one cell more for this set of its outs."""
        ins, before = 0, None
        while ins != before:
            before = ins
            got_ins, got_outs, told = self._inside(lost, ins, outs)
            ins = got_ins | function[got_ins][0]
        return got_outs, told and function[ins][1]

    def _inside(self, lost, ins, outs):
        """What is got in a cell alone: the set of its ins, that of its outs, and whether all wanted things are."""
        key = (lost, ins, outs)
        if key not in self._known:
            cell = self._cell
            gone = _chosen(lost, cell.stored)
            kept = [name for name in cell.stored if name not in gone]
            how = how_got(cell.triples, kept + _chosen(ins, cell.ins) + _chosen(outs, cell.outs))
            told = all([name in how for name in cell.wanted])
            self._known[key] = (_number(how, cell.ins), _number(how, cell.outs), told)
        return self._known[key]


def fewest_losses(borders, most):
    """Goes through the border functions of all chains with at most so many lost things (None: any number of them).

    Those with fewer lost things come first, with equally many those with fewer cells. Returns a dict from each
    function to how it was come to: (how many are lost, number of cells, function of one cell less, number of those
    lost in the last cell); and the first function that is broken, at which the search ends, or None.
    """
    found = {}
    queue = [(0, 0, 0, borders.start(), None, 0)]
    serial = 0
    while queue:
        many, count, _, function, before, lost = heappop(queue)
        if function in found:
            continue
        found[function] = (many, count, before, lost)
        if borders.broken(function):
            return found, function
        for after, more, number in borders.moves(function):
            if after not in found and (most is None or many + more <= most):
                serial += 1
                heappush(queue, (many + more, count + 1, serial, after, function, number))
    return found, None


def lost_on_the_way(borders, found, function):
    """The ascending tuple of the lost things with which the search came to this function."""
    lost = []
    _, count, before, number = found[function]
    while before is not None:
        lost = lost + [(count - 1, name) for name in borders.lost_names(number)]
        _, count, before, number = found[before]
    return tuple(sorted(lost))


def next_level(borders, level, most):
    """The border functions of one cell more, from a dict of those of a number of cells with their fewest losses.

    A dict from each function with at most so many losses (None: any number) to (how many are lost, function of one
    cell less, number of those lost in the last cell).
    """
    found = {}
    for function in level:
        many = level[function][0]
        for after, more, number in borders.moves(function):
            if most is not None and many + more > most:
                continue
            if after not in found or many + more < found[after][0]:
                found[after] = (many + more, function, number)
    return found


def _number(names, known):
    """The number of the set of those of the known names that are among the names."""
    return sum([1 << at for at, name in enumerate(known) if name in names])


def _chosen(number, known):
    """The list of the names of the set with this number."""
    return [name for at, name in enumerate(known) if number >> at & 1]
