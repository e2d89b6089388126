"""Scripts: rows that fill boxes and test them, where they can come to, and what their boxes still tell."""

from thirdback.beginnings import Beginning, check_beginning, is_thing
from thirdback.checks import check_boxes, check_chosen, is_number, is_one_of
from thirdback.errors import (
    InvalidContents, InvalidIndex, InvalidNames, InvalidRows, InvalidText, NotAScript, OtherKind, UnknownName)
from thirdback.kinds import Kind, check_kind
from thirdback.rows import all_ways, first_things, played, read_rows, walked
from thirdback.tables import closed, in_classes


class Script:
    """Boxes of a kind, and rows that are done one after the other. Scripts never change."""

    def __init__(self, kind, boxes, rows):
        check_kind(kind)
        check_boxes(boxes)
        self._steps = read_rows(rows, boxes)
        self._kind = kind
        self._boxes = boxes
        self._rows = rows

    @classmethod
    def read(cls, text):
        """The script with this text."""
        if not isinstance(text, str):
            raise InvalidText(text)
        lines = text.split("\n")
        if len(lines) < 3:
            raise InvalidText(text)
        boxes, rows = tuple(lines[1].split(" ")), tuple(lines[2:])
        try:
            return cls(Kind.read(lines[0]), boxes, rows)
        except (InvalidText, InvalidNames, InvalidRows):
            raise InvalidText(text)

    @property
    def kind(self):
        """The kind of the rules."""
        return self._kind

    @property
    def boxes(self):
        """The names of the boxes in their order."""
        return self._boxes

    @property
    def rows(self):
        """The rows in their order."""
        return self._rows

    @property
    def steps(self):
        """The rows as steps, see read_rows."""
        return self._steps

    def ways(self, row):
        """All ways to this index, possible or not, in ascending order."""
        check_row(self, row)
        for way in all_ways(self._steps, row):
            yield way

    def __len__(self):
        return len(self._rows)

    def __eq__(self, other):
        return (isinstance(other, Script) and self._kind == other._kind and self._boxes == other._boxes
                and self._rows == other._rows)

    def __str__(self):
        return "\n".join([str(self._kind), " ".join(self._boxes), *self._rows])


def run(script, beginning, things):
    """The way to the end in this beginning from these first contents, and the things in the boxes there."""
    check_script(script)
    check_beginning(beginning)
    if beginning.kind != script.kind:
        raise OtherKind(beginning)
    _check_first_things(script, beginning, things)
    held = {box: thing for box, thing in zip(script.boxes, things)}
    way, held, _ = played(script.steps, beginning, held, len(script))
    return way, tuple([held[box] for box in script.boxes])


def reachable(script):
    """The ascending tuple of the indexes that can be reached."""
    check_script(script)
    return tuple([row for row in range(len(script) + 1) if len(_possible_walks(script, row)) > 0])


def reaching(script, row):
    """None if the index cannot be reached, otherwise a beginning and first contents that come to it."""
    check_script(script)
    check_row(script, row)
    possible = _possible_walks(script, row)
    if len(possible) == 0:
        return None
    walk, classes = possible[0]
    beginning = Beginning(script.kind, max(classes) + 1, tuple(in_classes(walk.operations, classes)))
    return beginning, tuple(classes[:len(script.boxes)])


def surely_same(script, row, one, other):
    """Whether the two boxes hold the same thing whenever the script comes to this index."""
    check_script(script)
    check_row(script, row)
    _check_box(script, one)
    _check_box(script, other)
    possible = _possible_walks(script, row)
    return all([classes[walk.held[one]] == classes[walk.held[other]] for walk, classes in possible])


def same_ends(script, another, boxes):
    """Whether both scripts always end with the same thing in each of these boxes."""
    check_script(script)
    check_script(another)
    if another.kind != script.kind:
        raise OtherKind(another)
    if another.boxes != script.boxes:
        raise InvalidNames(None)
    check_chosen(boxes, script.boxes)
    first = first_things(script.boxes, 0)
    for walk in _end_walks(script, first, len(first)):
        for other in _end_walks(another, first, len(first) + len(walk.operations)):
            classes = _classes_together(script.kind, len(first), (walk, other), [])
            if classes is None:
                continue
            if any([classes[walk.held[box]] != classes[other.held[box]] for box in boxes]):
                return False
    return True


def gives_back(script, kept, wanted):
    """Whether what the kept boxes hold at the end tells what the wanted box held at first."""
    check_script(script)
    check_chosen(kept, script.boxes)
    _check_box(script, wanted)
    first = first_things(script.boxes, 0)
    second = first_things(script.boxes, len(first))
    size = len(first) + len(second)
    for walk in _end_walks(script, first, size):
        for other in _end_walks(script, second, size + len(walk.operations)):
            ends = [(walk.held[box], other.held[box]) for box in kept]
            classes = _classes_together(script.kind, size, (walk, other), ends)
            if classes is not None and classes[first[wanted]] != classes[second[wanted]]:
                return False
    return True


def check_script(script):
    """Raises NotAScript for anything but a Script."""
    if not isinstance(script, Script):
        raise NotAScript(script)


def check_row(script, row):
    """Raises InvalidIndex for anything but the index of a row or of the end."""
    if not is_number(row, 0, len(script)):
        raise InvalidIndex(row)


def _check_box(script, name):
    """Raises UnknownName for anything but the name of a box."""
    if not is_one_of(name, script.boxes):
        raise UnknownName(name)


def _check_first_things(script, beginning, things):
    """Raises InvalidContents for anything but a tuple of a thing for each box."""
    if not isinstance(things, tuple) or len(things) != len(script.boxes):
        raise InvalidContents(None)
    for index, thing in enumerate(things):
        if not is_thing(beginning.size, thing):
            raise InvalidContents(index)


def _end_walks(script, held, size):
    """The walks of all ways to the end."""
    end = len(script)
    return [walked(script.steps, way, end, held, size) for way in all_ways(script.steps, end)]


def _possible_walks(script, row):
    """For each possible way to the index a pair of its walk and the classes of its things."""
    first = first_things(script.boxes, 0)
    found = []
    for way in all_ways(script.steps, row):
        walk = walked(script.steps, way, row, first, len(first))
        classes = _classes_together(script.kind, len(first), (walk,), [])
        if classes is not None:
            found.append((walk, classes))
    return found


def _classes_together(kind, size, walks, equal):
    """The classes of the things of these walks in one rule, so many things being there at first.

    None if the walks, and what is equal beside, cannot be together.
    """
    triples = [triple for walk in walks for triple in walk.operations]
    pairs = equal + [pair for walk in walks for pair in walk.equal]
    classes, _ = closed(kind, size + len(triples), triples, pairs)
    if any([classes[one] == classes[other] for walk in walks for one, other in walk.unlike]):
        return None
    return classes
