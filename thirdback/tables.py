"""Closed tables: what is alike under some facts, and what is got from what is kept."""

from thirdback.beginnings import Beginning
from thirdback.formulas import signed_triple
from thirdback.kinds import OTHERS


class Table:
    """The closed table of some formulas and facts for a kind, its equal parts taken as one thing."""

    def __init__(self, kind, facts, formulas):
        parts = all_parts([side for fact in facts for side in fact] + list(formulas))
        numbers = part_numbers(parts)
        triples = operation_triples(parts)
        equal = [(numbers[str(one)], numbers[str(other)]) for one, other in facts]
        classes, mergings = closed(kind, len(parts), triples, equal)
        self._kind = kind
        self._letters = [part.name for part in parts if part.name is not None]
        self._things = {text: classes[number] for text, number in numbers.items()}
        self._count = len(set(classes))
        self._triples = in_classes(triples, classes)
        self._mergings = mergings

    def thing(self, formula):
        """The thing that this part is."""
        return self._things[str(formula)]

    def alike(self, one, other):
        """Whether the two parts are equal."""
        return self.thing(one) == self.thing(other)

    def mergings(self):
        """The tuple of the mergings that make the parts equal."""
        return tuple(self._mergings)

    def got(self, kept):
        """What is got from these parts, see how_got."""
        return how_got(self._triples, [self.thing(formula) for formula in kept])

    def steps_to(self, wanted, kept):
        """The pairs (operation, place) by which the wanted part is got, the operations in their order as indexes."""
        how = self.got(kept)
        made = [how[thing] for thing in needed_things(how, self.thing(wanted))]
        return tuple([(self._triples.index(triple), place) for place, triple in made])

    def shown(self):
        """The table as a beginning, and contents of all letters with which it holds."""
        beginning = Beginning(self._kind, self._count, tuple(self._triples))
        return beginning, self._contents(list(range(self._count)))

    def shown_twice(self, shared):
        """Two tables that have just these things in common as a beginning, and the contents of each."""
        copies = list(range(self._count))
        size = self._count
        for thing in range(self._count):
            if thing not in shared:
                copies[thing] = size
                size = size + 1
        beginning = Beginning(self._kind, size, tuple(self._triples + in_classes(self._triples, copies)))
        return beginning, self._contents(list(range(self._count))), self._contents(copies)

    def _contents(self, copies):
        """Contents of all letters, the copies standing for the things."""
        return tuple([(name, copies[self._things[name]]) for name in self._letters])


def all_parts(formulas):
    """All different parts of the formulas, those with fewer operations first, then by their texts."""
    found = {str(part): part for formula in formulas for part in formula.parts}
    order = sorted([(len(part), text) for text, part in found.items()])
    return [found[text] for _, text in order]


def part_numbers(parts):
    """A dict from the text of each part to its index."""
    return {str(part): number for number, part in enumerate(parts)}


def operation_triples(parts):
    """The triples of all operations among the parts, in their order, of the indexes of the parts."""
    numbers = part_numbers(parts)
    return [signed_triple(part.sign, numbers[str(part.left)], numbers[str(part.right)], numbers[str(part)])
            for part in parts if part.name is None]


def turned(triple, turn):
    """The image of the triple by the turn."""
    return (triple[turn[0]], triple[turn[1]], triple[turn[2]])


def in_classes(triples, classes):
    """The triples with the class of each thing in its place."""
    return [(classes[first], classes[second], classes[mixed]) for first, second, mixed in triples]


def closed(kind, size, triples, equal):
    """The closed table of these triples of so many things, some of which are equal.

    Returns a list with the number of its class for each thing, and a list of the mergings that made the classes.
    A merging is (i, turn, j, turn, place), or (i, turn, None, None, place) with a triple of a thing with itself.
    """
    classes = list(range(size))
    for one, other in equal:
        classes = merged(classes, one, other)
    images = [(None, None, (thing, thing, thing)) for thing in range(size) if kind.calm]
    images = images + [(index, turn, turned(triple, turn)) for index, triple in enumerate(triples) for turn in kind.lot]
    mergings = []
    before = []
    while classes != before:
        before = classes
        classes = _merged_once(classes, images, mergings)
    numbers = {name: number for number, name in enumerate(sorted(set(classes)))}
    return [numbers[name] for name in classes], mergings


def merged(classes, one, other):
    """The classes when these two things are equal, too."""
    new, old = classes[one], classes[other]
    return [new if name == old else name for name in classes]


def how_got(triples, kept):
    """A dict from each thing that is got to how: None if it is kept, or (place, triple) of the two others.

    What is got by a triple stands behind the two others of the triple.
    """
    uses = {}
    for triple in triples:
        for thing in triple:
            uses.setdefault(thing, []).append(triple)
    how = {own: None for own in kept}
    waiting = list(how)
    done = 0
    while done < len(waiting):
        touched = uses.get(waiting[done], ())
        for triple in touched:
            lacking = [place for place in range(3) if triple[place] not in how]
            if len(lacking) == 1:
                how[triple[lacking[0]]] = (lacking[0], triple)
                waiting.append(triple[lacking[0]])
        done += 1
    return how


def needed_things(how, goal):
    """The things that are to be made on the way to the goal, each behind those that it is made of."""
    needed = {goal: True}
    for thing in reversed(list(how)):
        if thing in needed and how[thing] is not None:
            _, triple = how[thing]
            for part in triple:
                needed[part] = True
    return [made for made in how if made in needed and how[made] is not None]


def _merged_once(classes, images, mergings):
    """The classes when all images have been gone through once; the mergings on the way are put behind the others."""
    seen = {}
    for image in images:
        index, turn, things = image
        for place, (one, other) in enumerate(OTHERS):
            key = (place, classes[things[one]], classes[things[other]])
            old_index, old_turn, old_things = seen.setdefault(key, image)
            if classes[old_things[place]] != classes[things[place]]:
                classes = merged(classes, old_things[place], things[place])
                # Triples of things with themselves stand ahead of all others, so they are never the later ones.
                mergings.append((index, turn, old_index, old_turn, place))
    return classes
