"""The checker: whether a certificate shows that a claim is true, whoever wrote the two."""

from thirdback.beginnings import Beginning, is_thing
from thirdback.borders import Borders
from thirdback.chains import Cell, check_count, check_lost
from thirdback.checks import is_integer, is_number
from thirdback.claims import Question, checked_kept
from thirdback.errors import Lacking, WrongValue
from thirdback.kinds import OTHERS
from thirdback.layouts import all_things, all_triples, kept_things, wanted_things
from thirdback.limits import MOST_LOST
from thirdback.mergings import classes_by_mergings
from thirdback.rows import all_ways, first_things, played, walked
from thirdback.scripts import Script, check_row


def _accepts_follows(claim, certificate):
    """ONE and OTHER are equal after the mergings."""
    _, kind, facts, one, other = claim
    classes = Question(kind, facts, (one, other)).classes_after(certificate)
    return classes is not None and classes[one] == classes[other]


def _accepts_apart(claim, certificate):
    """With the contents the facts hold, and the values of ONE and OTHER differ."""
    _, kind, facts, one, other = claim
    question = Question(kind, facts, (one, other))
    if not _is_tuple(certificate, 3):
        return False
    size, triples, contents = certificate
    values = question.values_with(size, triples, contents)
    return values is not None and values[one] != values[other]


def _accepts_tells(claim, certificate):
    """WANTED is got from KEPT by the steps, after the mergings."""
    _, kind, facts, kept, wanted = claim
    question = Question(kind, facts, checked_kept(kept) + (wanted,))
    if not _is_tuple(certificate, 2):
        return False
    mergings, steps = certificate
    classes = question.classes_after(mergings)
    if classes is None or not isinstance(steps, tuple):
        return False
    triples = question.operations_in(classes)
    got = {classes[text]: True for text in kept}
    for step in steps:
        if not _is_step(step, len(triples)):
            return False
        index, place = step
        if not all([triples[index][at] in got for at in OTHERS[place]]):
            return False
        got[triples[index][place]] = True
    return classes[wanted] in got


def _accepts_open(claim, certificate):
    """With both contents the facts hold, each kept formula has one value with both, and WANTED has two."""
    _, kind, facts, kept, wanted = claim
    question = Question(kind, facts, checked_kept(kept) + (wanted,))
    if not _is_tuple(certificate, 4):
        return False
    size, triples, contents, others = certificate
    values = question.values_with(size, triples, contents)
    more = question.values_with(size, triples, others)
    if values is None or more is None:
        return False
    return all([values[text] == more[text] for text in kept]) and values[wanted] != more[wanted]


def _accepts_can(claim, certificate):
    """From the things as first contents the script comes to the index."""
    script, row = _read_script(claim)
    if not _is_tuple(certificate, 3):
        return False
    size, triples, things = certificate
    beginning = Beginning(script.kind, size, triples)
    if not _is_tuple(things, len(script.boxes)) or not all([is_thing(size, thing) for thing in things]):
        return False
    held = {box: thing for box, thing in zip(script.boxes, things)}
    _, _, index = played(script.steps, beginning, held, row)
    return index == row


def _accepts_never(claim, certificate):
    """On each way to the index two things are equal that the way says to be unlike."""
    script, row = _read_script(claim)
    ways = all_ways(script.steps, row)
    if not _is_tuple(certificate, len(ways)):
        return False
    if not all([_is_tuple(part, 3) and _is_way(part[0]) for part in certificate]):
        return False
    if sorted([part[0] for part in certificate]) != ways:
        return False
    return all([_cannot_be_gone(script, row, part) for part in certificate])


def _accepts_withstands(claim, certificate):
    """That of no cells is among the functions, what comes of them with so few losses, too, and none is broken."""
    _, cell_row, most = claim
    cell = Cell.made(cell_row)
    if not is_number(most, 0, MOST_LOST) or not isinstance(certificate, tuple):
        return False
    if not all([_is_tuple(pair, 2) and _is_function(pair[0], len(cell.outs)) for pair in certificate]):
        return False
    if not all([is_number(lost, 0, most) for _, lost in certificate]):
        return False
    borders = Borders(cell)
    found = {function: lost for function, lost in certificate}
    if len(found) < len(certificate) or found.get(borders.start()) != 0:
        return False
    return all([_is_left_inside(borders, found, function, most) for function in found])


def _accepts_breaks(claim, certificate):
    """The things hold all that is kept and what is told by those in them, but not all that is wanted."""
    _, cell_row, count, lost = claim
    cell = Cell.made(cell_row)
    check_count(count)
    check_lost(cell, count, lost)
    if not _are_things(certificate, all_things(cell, count)):
        return False
    got = {thing: True for thing in certificate}
    if not all([thing in got for thing in kept_things(cell, count, lost)]):
        return False
    # A triple tells something more if just one of its places is not got.
    if any([len([thing for thing in triple if thing not in got]) == 1 for triple in all_triples(cell, count)]):
        return False
    return not all([thing in got for thing in wanted_things(cell, count)])


# For each form how many elements its claims have, and the function that looks over its certificates.
_COUNTS = {"follows": 5, "apart": 5, "tells": 5, "open": 5, "can": 3, "never": 3, "withstands": 3, "breaks": 4}
_FORMS = {
    "follows": _accepts_follows, "apart": _accepts_apart, "tells": _accepts_tells, "open": _accepts_open,
    "can": _accepts_can, "never": _accepts_never, "withstands": _accepts_withstands, "breaks": _accepts_breaks,
}


def accepts(claim, certificate):
    """Whether it is a claim for the checker, and the certificate is one for it."""
    if not isinstance(claim, tuple) or len(claim) == 0 or not isinstance(claim[0], str):
        return False
    if claim[0] not in _COUNTS or len(claim) != _COUNTS[claim[0]]:
        return False
    form = _FORMS[claim[0]]
    try:
        return form(claim, certificate)
    except (WrongValue, Lacking):
        # What is no text of a formula, no row of a cell and so on is met where it is read.
        return False


def _is_tuple(value, count):
    """Whether it is a tuple of so many elements."""
    return isinstance(value, tuple) and len(value) == count


def _is_step(value, count):
    """Whether it is a pair of an index of so many operations and a place."""
    return _is_tuple(value, 2) and is_number(value[0], 0, count - 1) and is_number(value[1], 0, 2)


def _read_script(claim):
    """The script of a claim and the index; some WrongValue is raised where they are none."""
    _, text, row = claim
    script = Script.read(text)
    check_row(script, row)
    return script, row


def _is_way(value):
    """Whether it is a tuple of integers."""
    return isinstance(value, tuple) and all([is_integer(index) for index in value])


def _cannot_be_gone(script, row, part):
    """Whether the unlike pair with the index of this part of a certificate is equal on its way."""
    way, index, mergings = part
    first = first_things(script.boxes, 0)
    walk = walked(script.steps, way, row, first, len(first))
    if not is_number(index, 0, len(walk.unlike) - 1):
        return False
    size = len(first) + len(walk.operations)
    classes = classes_by_mergings(script.kind, size, walk.operations, walk.equal, mergings)
    one, other = walk.unlike[index]
    return classes is not None and classes[one] == classes[other]


def _is_function(value, sides):
    """Whether it is a tuple of a pair for each set of so many outs, of the number of a set and True or False."""
    if not _is_tuple(value, 1 << sides) or not all([_is_tuple(pair, 2) for pair in value]):
        return False
    return all([is_number(number, 0, (1 << sides) - 1) and isinstance(told, bool) for number, told in value])


def _is_left_inside(borders, found, function, most):
    """Whether it is not broken, and all that comes of it with at most so many losses is found with as few."""
    if borders.broken(function):
        return False
    coming = [(after, found[function] + more) for after, more, _ in borders.moves(function)]
    return all([after in found and found[after] <= lost for after, lost in coming if lost <= most])


def _are_things(value, things):
    """Whether it is an ascending tuple of some of these things."""
    if not isinstance(value, tuple):
        return False
    if not all([_is_tuple(thing, 2) and is_integer(thing[0]) and isinstance(thing[1], str) for thing in value]):
        return False
    named = {thing: True for thing in value}
    return list(value) == sorted([thing for thing in things if thing in named])
