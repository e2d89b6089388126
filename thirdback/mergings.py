"""Mergings: single steps by which things of triples turn out to be equal, for those who want to look them over."""

from thirdback.checks import is_number, is_triple
from thirdback.kinds import OTHERS
from thirdback.tables import merged, turned


def classes_by_mergings(kind, size, triples, equal, mergings):
    """The classes of so many things, some of which are equal, after these mergings; None if one of them is wrong."""
    if not isinstance(mergings, tuple):
        return None
    classes = list(range(size))
    for one, other in equal:
        classes = merged(classes, one, other)
    for merging in mergings:
        pair = _merged_pair(kind, triples, classes, merging)
        if pair is None:
            return None
        classes = merged(classes, pair[0], pair[1])
    return classes


def _merged_pair(kind, triples, classes, merging):
    """The two things that the merging says to be equal, None if it is wrong."""
    if not isinstance(merging, tuple) or len(merging) != 5 or not is_number(merging[4], 0, 2):
        return None
    index, turn, other_index, other_turn, place = merging
    one, other = OTHERS[place]
    triple = _turned_triple(kind, triples, index, turn)
    if triple is None:
        return None
    if kind.calm and other_index is None and other_turn is None:
        # The other triple is that of the thing at these two places with itself.
        return (triple[place], triple[one]) if classes[triple[one]] == classes[triple[other]] else None
    match = _turned_triple(kind, triples, other_index, other_turn)
    if match is None or any([classes[triple[at]] != classes[match[at]] for at in (one, other)]):
        return None
    return triple[place], match[place]


def _turned_triple(kind, triples, index, turn):
    """The triple at this index, turned; None if there is none, or if the turn is none of the kind."""
    if not is_number(index, 0, len(triples) - 1) or not is_triple(turn) or turn not in kind.lot:
        return None
    return turned(triples[index], turn)
