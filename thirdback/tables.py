"""Closed tables: what is alike under some facts, and what is got from what is kept."""

from thirdback.beginnings import Beginning
from thirdback.formulas import signed_triple
from thirdback.kinds import OTHERS


class Table:
    """The closed table of some formulas and facts for a kind, its equal parts taken as one thing."""

    def __init__(self, kind, facts, formulas):
        parts = all_parts([side for fact in facts for side in fact] + list(formulas))
        numbers = {text: number for number, text in enumerate(parts)}
        triples = [_part_triple(part, numbers) for part in parts.values() if part.name is None]
        equal = [(numbers[str(one)], numbers[str(other)]) for one, other in facts]
        classes = class_numbers(kind, len(parts), triples, equal)
        self._kind = kind
        self._letters = sorted([part.name for part in parts.values() if part.name is not None])
        self._things = {text: classes[numbers[text]] for text in parts}
        self._count = len(set(classes))
        self._triples = [(classes[first], classes[second], classes[mixed]) for first, second, mixed in triples]

    def thing(self, formula):
        """The thing that this part is."""
        return self._things[str(formula)]

    def alike(self, one, other):
        """Whether the two parts are equal."""
        return self.thing(one) == self.thing(other)

    def got(self, kept):
        """What is got from these parts, see how_got."""
        return how_got(self._triples, [self.thing(formula) for formula in kept])

    def shown(self):
        """The table as a beginning, and contents of all letters with which it holds."""
        beginning = Beginning(self._kind, self._count, tuple(self._triples))
        return beginning, self._contents(list(range(self._count)))

    def shown_twice(self, shared):
        """Two tables that have just these things in common as a beginning, and the contents of each."""
        copies = list(range(self._count))
        size = self._count
        for thing in range(self._count):
            if thing not in shared:
                copies[thing] = size
                size = size + 1
        copied = [(copies[first], copies[second], copies[mixed]) for first, second, mixed in self._triples]
        beginning = Beginning(self._kind, size, tuple(self._triples + copied))
        return beginning, self._contents(list(range(self._count))), self._contents(copies)

    def _contents(self, copies):
        """Contents of all letters, the copies standing for the things."""
        return tuple([(name, copies[self._things[name]]) for name in self._letters])


def class_numbers(kind, size, triples, equal):
    """For each thing the number of its class of equal things in the closed table of these triples."""
    labels = list(range(size))
    for one, other in equal:
        labels = _merged(labels, one, other)
    images = [image for triple in triples for image in kind.images(triple)]
    images = images + [(thing, thing, thing) for thing in range(size) if kind.calm]
    before = []
    while labels != before:
        before = labels
        labels = _merged_once(labels, images)
    order = sorted(set(labels))
    return [order.index(label) for label in labels]


def how_got(triples, kept):
    """A dict from each thing that is got to how: None if it is kept, or (place, triple) of the two others.

    What is got by a triple stands behind the two others of the triple.
    """
    uses = {}
    for triple in triples:
        for thing in triple:
            uses.setdefault(thing, []).append(triple)
    how = {own: None for own in kept}
    waiting = list(how)
    done = 0
    while done < len(waiting):
        touched = uses.get(waiting[done], ())
        for triple in touched:
            lacking = [place for place in range(3) if triple[place] not in how]
            if len(lacking) == 1:
                how[triple[lacking[0]]] = (lacking[0], triple)
                waiting.append(triple[lacking[0]])
        done += 1
    return how


def all_parts(formulas):
    """All parts of the formulas by their texts, each behind those that it is made of."""
    found = {}
    for formula in formulas:
        for part in formula.parts:
            found[str(part)] = part
    return found


def _part_triple(part, numbers):
    """The triple of an operation, in numbers."""
    return signed_triple(part.sign, numbers[str(part.left)], numbers[str(part.right)], numbers[str(part)])


def _merged(labels, one, other):
    """The labels when these two things are equal, too."""
    new, old = labels[one], labels[other]
    return [new if label == old else label for label in labels]


def _merged_once(labels, images):
    """The labels when all triples have been gone through once."""
    seen = {}
    for image in images:
        for place, (one, other) in enumerate(OTHERS):
            thing = seen.setdefault((place, labels[image[one]], labels[image[other]]), image[place])
            if labels[thing] != labels[image[place]]:
                labels = _merged(labels, thing, image[place])
    return labels
