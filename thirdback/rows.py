"""The rows of scripts: how they are read, where they lead, and what they do."""

from thirdback.beginnings import signed_value
from thirdback.checks import is_one_of
from thirdback.errors import InvalidRows, Lacking
from thirdback.formulas import SIGNS, signed_triple
from thirdback.limits import MOST_ROWS, MOST_TESTS

_COPY = "="
_GO = "go"
_SAME = "same"
_TESTS = ("same", "unlike")


class Walk:
    """What a way through a script makes: things, numbered from a number on, that its boxes hold.

    `operations` are the triples of its operations, each of which makes the next thing, `equal` and `unlike` the
    pairs of things of which its tests say this, `held` is a dict of what the boxes hold in the end.
    """

    def __init__(self, held):
        self.operations = []
        self.equal = []
        self.unlike = []
        self.held = {box: thing for box, thing in held.items()}


def read_rows(rows, boxes):
    """The tuple of the rows as steps; raises InvalidRows for anything but a tuple of rows with these boxes.

    A step is (word, boxes, goal): one of the signs, "=", "same", "unlike" or "go", the boxes in the order in which
    they stand in the row, and the index that the row may go to, None if it cannot.
    """
    if not isinstance(rows, tuple) or len(rows) == 0:
        raise InvalidRows(None)
    steps = []
    for index, text in enumerate(rows):
        read = _read_row(text, boxes, index, len(rows))
        if index == MOST_ROWS or read is None:
            raise InvalidRows(index)
        steps.append(read)
        if len([step for step in steps if step[0] in _TESTS]) > MOST_TESTS:
            raise InvalidRows(index)
    return tuple(steps)


def first_things(boxes, size):
    """A dict with a new thing for each box, there being so many things already."""
    return {box: size + at for at, box in enumerate(boxes)}


def all_ways(steps, row):
    """The ascending list of all ways to this index."""
    ways = []
    waiting = [((), 0)]
    while waiting:
        way, at = waiting.pop()
        if at == row:
            ways.append(way)
        elif at < row:
            for following in _following(steps[at], at):
                waiting.append((way + (at,), following))
    return sorted(ways)


def walked(steps, way, row, held, size):
    """The walk of a way to this index, so many things being there and the boxes holding those in `held`."""
    walk = Walk(held)
    for at, following in zip(way, way[1:] + (row,)):
        word, boxes, goal = steps[at]
        things = [walk.held[box] for box in boxes]
        if word in SIGNS:
            made = size + len(walk.operations)
            walk.operations.append(signed_triple(word, things[1], things[2], made))
            walk.held[boxes[0]] = made
        elif word == _COPY:
            walk.held[boxes[0]] = things[1]
        elif word in _TESTS and (word == _SAME) == (following == goal):
            walk.equal.append((things[0], things[1]))
        elif word in _TESTS:
            walk.unlike.append((things[0], things[1]))
    return walk


def played(steps, beginning, held, row):
    """Does the rows in a beginning until this index or one behind it comes; raises Lacking.

    Returns the way, a dict of what the boxes hold then, and the index that comes.
    """
    held = {box: thing for box, thing in held.items()}
    way = ()
    at = 0
    while at < row:
        word, boxes, goal = steps[at]
        things = [held[box] for box in boxes]
        if word in SIGNS:
            held[boxes[0]] = signed_value(beginning, word, things[1], things[2])
            if held[boxes[0]] is None:
                raise Lacking(at)
        elif word == _COPY:
            held[boxes[0]] = things[1]
        way = way + (at,)
        goes = word == _GO or word in _TESTS and (word == _SAME) == (things[0] == things[1])
        at = goal if goes else at + 1
    return way, held, at


def _read_row(text, boxes, index, count):
    """The row at this index of so many as a step, None if it is none."""
    if not isinstance(text, str):
        return None
    words = text.split(" ")
    if len(words) == 2 and words[0] == _GO:
        return _step(_GO, (), boxes, _goal(words[1], index + 1, count))
    if len(words) == 4 and words[0] in _TESTS:
        return _step(words[0], (words[1], words[2]), boxes, _goal(words[3], index + 2, count))
    if len(words) == 3 and words[1] == _COPY:
        return _step(_COPY, (words[0], words[2]), boxes, None)
    if len(words) == 5 and words[1] == _COPY and words[3] in SIGNS:
        return _step(words[3], (words[0], words[2], words[4]), boxes, None)
    return None


def _step(word, named, boxes, goal):
    """The step, None if it names what is no box, or leads nowhere though it should."""
    if goal is None and (word == _GO or word in _TESTS):
        return None
    if not all([is_one_of(name, boxes) for name in named]):
        return None
    return (word, named, goal)


def _goal(word, least, most):
    """The index that is written so, None if it is not from the least to the most."""
    if not word.isdecimal() or len(word) > len(str(most)):
        return None
    goal = int(word)
    if str(goal) != word or not least <= goal <= most:
        return None
    return goal


def _following(step, at):
    """The indexes that may come behind the row at this index."""
    word, _, goal = step
    if word == _GO:
        return (goal,)
    if goal is None:
        return (at + 1,)
    return (at + 1, goal)
