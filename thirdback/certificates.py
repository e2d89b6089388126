"""Certificates: claims about what the rest of the package finds, with what shows that they are true."""

from thirdback.borders import Borders, fewest_losses, lost_on_the_way
from thirdback.chains import check_cell, check_losses
from thirdback.facts import apart, twins
from thirdback.layouts import got_things
from thirdback.rows import all_ways, first_things, walked
from thirdback.scripts import reaching
from thirdback.tables import Table, closed


def certify_alike(kind, facts, one, other):
    """The claim that the two formulas are alike under the facts, or that they are not, and its certificate."""
    shown = apart(kind, facts, one, other)
    texts = (str(kind), _fact_texts(facts), str(one), str(other))
    if shown is None:
        return ("follows", *texts), Table(kind, facts, (one, other)).mergings()
    beginning, contents = shown
    return ("apart", *texts), (beginning.size, beginning.triples, contents)


def certify_told(kind, facts, kept, wanted):
    """The claim that the kept formulas tell the wanted one, or that they do not, and its certificate."""
    shown = twins(kind, facts, kept, wanted)
    texts = (str(kind), _fact_texts(facts), tuple([str(formula) for formula in kept]), str(wanted))
    if shown is None:
        table = Table(kind, facts, (*kept, wanted))
        return ("tells", *texts), (table.mergings(), table.steps_to(wanted, kept))
    beginning, contents, others = shown
    return ("open", *texts), (beginning.size, beginning.triples, contents, others)


def certify_index(script, row):
    """The claim that the index can be reached, or that it never is, and its certificate."""
    shown = reaching(script, row)
    if shown is None:
        ways = all_ways(script.steps, row)
        return ("never", str(script), row), tuple([_impossible(script, row, way) for way in ways])
    beginning, things = shown
    return ("can", str(script), row), (beginning.size, beginning.triples, things)


def certify_chains(cell, number):
    """The claim that no so many lost things harm, or that some do in some chain, and its certificate."""
    check_cell(cell)
    check_losses(number)
    borders = Borders(cell)
    found, broken = fewest_losses(borders, number)
    if broken is None:
        return ("withstands", cell.row, number), tuple([(function, found[function][0]) for function in found])
    count = found[broken][1]
    lost = lost_on_the_way(borders, found, broken)
    return ("breaks", cell.row, count, lost), tuple(sorted(got_things(cell, count, lost)))


def _fact_texts(facts):
    """The facts as pairs of texts."""
    return tuple([(str(one), str(other)) for one, other in facts])


def _impossible(script, row, way):
    """The way with the index of an unlike pair that is equal on it, and the mergings that make it so."""
    first = first_things(script.boxes, 0)
    walk = walked(script.steps, way, row, first, len(first))
    classes, mergings = closed(script.kind, len(first) + len(walk.operations), walk.operations, walk.equal)
    equal = [index for index, (one, other) in enumerate(walk.unlike) if classes[one] == classes[other]]
    return way, equal[0], tuple(mergings)
