"""Chains laid out cell by cell: their things, their triples and what is kept of them."""

from thirdback.tables import how_got


def all_things(cell, count):
    """All things of the chain of so many cells."""
    return [(0, name) for name in cell.ins] + [
        (at, name) for at in range(count) for name in cell.inner + cell.outs]


def all_triples(cell, count):
    """The triples of all cells of the chain."""
    return [tuple([_thing(cell, at, name) for name in triple]) for at in range(count) for triple in cell.triples]


def kept_things(cell, count, lost):
    """What is kept when these things of the chain are lost."""
    stored = [(at, name) for at in range(count) for name in cell.stored]
    gone = {thing: True for thing in lost}
    ends = [(0, name) for name in cell.begin] + [(count - 1, name) for name in cell.end]
    return [thing for thing in stored if thing not in gone] + ends


def wanted_things(cell, count):
    """The ascending list of the wanted things of the chain."""
    return sorted([(at, name) for at in range(count) for name in cell.wanted])


def got_things(cell, count, lost):
    """A dict whose keys are the things that are got when these are lost."""
    return how_got(all_triples(cell, count), kept_things(cell, count, lost))


def _thing(cell, at, name):
    """The thing that this name of the cell at this index is."""
    if at > 0 and name in cell.ins:
        return (at - 1, cell.outs[cell.ins.index(name)])
    return (at, name)
