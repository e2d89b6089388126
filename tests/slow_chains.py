"""Cells and chains, done in a plain and slow way by the words of point 15 to hold the program against."""

import itertools

import slow
from thirdback.chains import Cell
from thirdback.errors import Clash


def thing(cell, at, name):
    """The thing of the chain that a name of the cell at this index is: the outs are the ins of the next cell."""
    if name in cell.ins and at > 0:
        return at - 1, cell.outs[cell.ins.index(name)]
    return at, name


def things(cell, count):
    """All things of the chain."""
    names = cell.ins + cell.inner + cell.outs
    return sorted({thing(cell, at, name) for at in range(count) for name in names})


def triples(cell, count, first=0):
    """The triples of the cells of a chain, from the first one on."""
    return [tuple(thing(cell, at, name) for name in triple) for at in range(first, count) for triple in cell.triples]


def stored(cell, count):
    """The stored things of the chain, ascending."""
    return sorted((at, name) for at in range(count) for name in cell.stored)


def wanted(cell, count):
    """The wanted things of the chain, ascending."""
    return sorted((at, name) for at in range(count) for name in cell.wanted)


def kept(cell, count, lost):
    """The kept things of the chain."""
    return [one for one in stored(cell, count) if one not in lost] + [(0, name) for name in cell.begin] + [
        (count - 1, name) for name in cell.end]


def untold(cell, count, lost):
    """The wanted things that are not got, ascending."""
    found = slow.all_got(triples(cell, count), kept(cell, count, lost))
    return tuple([one for one in wanted(cell, count) if one not in found])


def fewest(cell, count, most=99):
    """How few lost things harm in the chain, None if none do, looked for among all sets with at most so many."""
    every = stored(cell, count)
    for many in range(min(most, len(every)) + 1):
        if any(untold(cell, count, lost) for lost in itertools.combinations(every, many)):
            return many
    return None


def sets_of(names):
    """All sets of names, each at the index that is the sum of 2**j for the indexes j of its names."""
    return [[name for at, name in enumerate(names) if number >> at & 1] for number in range(2 ** len(names))]


def border_function(cell, count, lost):
    """The border function of the cells of a chain, laid out cell by cell; of no cells, too."""
    if count == 0:
        return tuple([(sets_of(cell.ins).index([name for name in cell.ins if name in chosen or name in cell.begin]),
                       True)
                      for chosen in sets_of(cell.ins)])
    pairs = []
    for chosen in sets_of(cell.outs):
        known = [one for one in stored(cell, count) if one not in lost] + [(0, name) for name in cell.begin] + [
            (count - 1, name) for name in chosen]
        found = slow.all_got(triples(cell, count), known)
        outs = [name for name in cell.outs if (count - 1, name) in found]
        pairs.append((sets_of(cell.outs).index(outs), all(one in found for one in wanted(cell, count))))
    return tuple(pairs)


def one_more(cell, function, lost):
    """The border function of one cell more, in which these names are lost, by the words of point 18."""
    pairs = []
    for chosen in sets_of(cell.outs):
        known_ins, before = [], None
        while known_ins != before:
            before = known_ins
            found = slow.all_got(cell.triples, [name for name in cell.stored if name not in lost] + chosen + before)
            got_ins = [name for name in cell.ins if name in found]
            added = sets_of(cell.ins)[function[sets_of(cell.ins).index(got_ins)][0]]
            known_ins = [name for name in cell.ins if name in got_ins or name in added]
        outs = [name for name in cell.outs if name in found]
        told = all(name in found for name in cell.wanted) and function[sets_of(cell.ins).index(known_ins)][1]
        pairs.append((sets_of(cell.outs).index(outs), told))
    return tuple(pairs)


def first_clash(kind, ins, inner, outs, passed):
    """The index of the first triple with which there is a clash in a chain of two cells, None if there is none."""
    def numbered(at, name):
        return (0, outs[ins.index(name)]) if at == 1 and name in ins else (at, name)

    found = {(one, one, one) for at in (0, 1) for name in ins + inner + outs for one in [numbered(at,
                                                                                                  name)] if kind.calm}
    for index, triple in enumerate(passed):
        found |= slow.with_images(kind, [tuple(numbered(at, name) for name in triple) for at in (0, 1)])
        if slow.have_clash(found):
            return index
    return None


def random_cell(source, kind, most_side=3, most_inner=6, most_triples=8, most_stored=6):
    """A cell with triples that do not clash."""
    ins = tuple([f"p{at}" for at in range(source.randint(0, most_side))])
    outs = tuple([f"q{at}" for at in range(len(ins))])
    inner = tuple([f"x{at}" for at in range(source.randint(0 if ins else 1, most_inner))])
    names, own = ins + inner + outs, list(inner + outs)
    source.shuffle(own)
    found = ()
    for _ in range(source.randint(0, most_triples)):
        triple = tuple(source.choices(names, k=3))
        if len(set(triple)) == 3 or source.random() < 0.3:
            if first_clash(kind, ins, inner, outs, found + (triple,)) is None:
                found = found + (triple,)
    return Cell(
        kind, ins, inner, outs, found,
        stored=tuple(own[:source.randint(0, min(most_stored, len(own)))]),
        wanted=tuple(source.sample(own, source.randint(1, min(len(own), 3)))),
        begin=tuple([name for name in ins if source.random() < 0.5]),
        end=tuple([name for name in outs if source.random() < 0.5]))


def useful_cell(source, kind, most_stored=3, most_side=2):
    """A small cell in which some losses harm and others do not, if a few tries find one."""
    for _ in range(20):
        cell = random_cell(source, kind, most_side, 3, 5, most_stored)
        if cell.stored and cell.triples and not untold(cell, 2, ()):
            return cell
    return cell


def clash_of(*passed, **named):
    """The index of the Clash that making a cell raises, None if it raises none."""
    try:
        Cell(*passed, **named)
    except Clash as clash:
        return clash.index
    return None
