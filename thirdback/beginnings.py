"""Beginnings: finitely many things of a rule and some of its triples, without a clash."""

from thirdback.checks import is_integer, is_name, is_triple
from thirdback.errors import (
    Clash, InvalidContents, InvalidNumber, InvalidTriple, InvalidTriples, NotABeginning, OtherKind, TooMany)
from thirdback.formulas import check_formula, signed_triple
from thirdback.kinds import OTHERS, check_kind
from thirdback.limits import MOST_THINGS


class Beginning:
    """Things and triples that are a part of some rule of a kind. Beginnings never change."""

    def __init__(self, kind, size, triples=()):
        check_kind(kind)
        if not is_integer(size) or not 0 <= size <= MOST_THINGS:
            raise InvalidNumber(size)
        _check_triples(size, triples)
        own = [(thing, thing, thing) for thing in range(size) if kind.calm]
        self._kind = kind
        self._size = size
        # For each place a dict from the key of two things at the other places to the thing there.
        self._tables = _with_triples(kind, _with_triples(kind, ({}, {}, {}), own), triples)

    @property
    def kind(self):
        """The kind of the rules that it is a part of."""
        return self._kind

    @property
    def size(self):
        """How many things it has."""
        return self._size

    @property
    def triples(self):
        """The ascending tuple of all triples."""
        mixes = self._tables[2]
        return tuple([(key // MOST_THINGS, key % MOST_THINGS, mixes[key]) for key in sorted(mixes)])

    @property
    def whole(self):
        """Whether it is a rule by itself."""
        # Without a clash, a triple for each two things at two places makes one at the others, too.
        return self._size > 0 and len(self._tables[2]) == self._size * self._size

    def __call__(self, first, second):
        _check_things(self._size, (first, second))
        return _completed(self._tables, (first, second, None))

    def first(self, mixed, second):
        """The first thing of the triple with these, None if there is none."""
        _check_things(self._size, (mixed, second))
        return _completed(self._tables, (None, second, mixed))

    def second(self, first, mixed):
        """The second thing of the triple with these, None if there is none."""
        _check_things(self._size, (first, mixed))
        return _completed(self._tables, (first, None, mixed))

    def grown(self, first, second, mixed):
        """With a triple of the two things at their places, the third being new if there is none yet."""
        triple = (first, second, mixed)
        if not _lacks_one(self._size, triple):
            raise InvalidTriple(triple)
        if _completed(self._tables, triple) is not None:
            return self
        if self._size == MOST_THINGS:
            raise TooMany(MOST_THINGS)
        new = self._size
        own = [(new, new, new)] if self._kind.calm else []
        added = tuple([new if thing is None else thing for thing in triple])
        return _made(self._kind, new + 1, _with_triples(self._kind, self._tables, own + [added]))

    def value(self, formula, contents):
        """The value of the formula, None if it is not known."""
        check_formula(formula)
        _check_contents(self._size, contents)
        return _value(self._tables, formula, {name: thing for name, thing in contents})

    def __contains__(self, triple):
        # Keys of things that are none of its own could be those of others.
        if not is_triple(triple) or not all([is_thing(self._size, thing) for thing in triple]):
            return False
        return _completed(self._tables, (triple[0], triple[1], None)) == triple[2]

    def __len__(self):
        return len(self._tables[2])

    def __bool__(self):
        return True

    def __eq__(self, other):
        return (isinstance(other, Beginning) and self._kind == other._kind and self._size == other._size
                and self._tables == other._tables)

    def __or__(self, other):
        """The beginning with the greater size and all triples of both."""
        _check_other(self, other)
        tables = _with_triples(self._kind, self._tables, other.triples)
        return _made(self._kind, max(self._size, other.size), tables)

    def __and__(self, other):
        """The beginning with the smaller size and the triples that are in both."""
        _check_other(self, other)
        return Beginning(self._kind, min(self._size, other.size),
                         tuple([triple for triple in self.triples if triple in other]))


def is_thing(size, value):
    """Whether it is one of so many things."""
    return is_integer(value) and 0 <= value < size


def signed_value(beginning, sign, left, right):
    """What the sign makes of these two things, None if it is not known."""
    if sign == "*":
        return beginning(left, right)
    if sign == "//":
        return beginning.first(left, right)
    return beginning.second(left, right)


def check_beginning(beginning):
    """Raises NotABeginning for anything but a Beginning."""
    if not isinstance(beginning, Beginning):
        raise NotABeginning(beginning)


def _check_other(beginning, other):
    """Raises NotABeginning or OtherKind for what cannot be joined with it."""
    check_beginning(other)
    if other.kind != beginning.kind:
        raise OtherKind(other)


def _check_triples(size, triples):
    """Raises InvalidTriples for anything but a tuple of triples of so many things."""
    if not isinstance(triples, tuple):
        raise InvalidTriples(None)
    for index, triple in enumerate(triples):
        if not is_triple(triple) or min(triple) < 0 or max(triple) >= size:
            raise InvalidTriples(index)


def _check_things(size, things):
    """Raises InvalidNumber with the first that is no thing."""
    for thing in things:
        if not is_thing(size, thing):
            raise InvalidNumber(thing)


def _check_contents(size, contents):
    """Raises InvalidContents for anything but a tuple of pairs (name, thing) with ascending names."""
    if not isinstance(contents, tuple):
        raise InvalidContents(None)
    for index, pair in enumerate(contents):
        if not _is_content(size, pair) or (index > 0 and pair[0] <= contents[index - 1][0]):
            raise InvalidContents(index)


def _is_content(size, value):
    """Whether it is a pair (name, thing)."""
    return isinstance(value, tuple) and len(value) == 2 and is_name(value[0]) and is_thing(size, value[1])


def _lacks_one(size, triple):
    """Whether just one is None and the two others are things."""
    there = [thing for thing in triple if thing is not None]
    return len(there) == 2 and all([is_thing(size, thing) for thing in there])


def _key(one, other):
    """A number of its own for each two things."""
    return one * MOST_THINGS + other


def _completed(tables, triple):
    """The thing that belongs where this triple has None; None if there is no such triple."""
    # Looked for by hand: `index` is also an attribute of errors, and operators get here.
    place = min([at for at in range(3) if triple[at] is None])
    one, other = OTHERS[place]
    return tables[place].get(_key(triple[one], triple[other]))


def _value(tables, formula, things):
    """The value of the formula with these things as contents, None if it is not known."""
    if formula.name is not None:
        return things.get(formula.name)
    left = _value(tables, formula.left, things)
    right = _value(tables, formula.right, things)
    if left is None or right is None:
        return None
    return _completed(tables, signed_triple(formula.sign, left, right, None))


def _with_triples(kind, tables, triples):
    """The tables with these triples, too; raises Clash with the index of the first that does not fit."""
    firsts = dict(tables[0])
    seconds = dict(tables[1])
    mixes = dict(tables[2])
    for index, triple in enumerate(triples):
        # A triple that is there has all its images there.
        if mixes.get(_key(triple[0], triple[1])) == triple[2]:
            continue
        for i, j, k in kind.lot:
            first, second, mixed = triple[i], triple[j], triple[k]
            if (firsts.setdefault(_key(second, mixed), first) != first
                    or seconds.setdefault(_key(first, mixed), second) != second
                    or mixes.setdefault(_key(first, second), mixed) != mixed):
                raise Clash(index)
    return (firsts, seconds, mixes)


def _made(kind, size, tables):
    """The beginning with these tables, which are right already."""
    made = Beginning(kind, 0)
    made._size = size
    made._tables = tables
    return made
