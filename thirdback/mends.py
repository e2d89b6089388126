"""Mends: the least sets of changes that lift a store to a strength."""

from thirdback.checks import is_number
from thirdback.errors import InvalidChanges, InvalidNumber, TooMany
from thirdback.limits import MOST_BOXES, MOST_CHANGES
from thirdback.stores import check_store, check_wanted, strength, wrong_pair

_GREATEST = 7


def mends(store, wanted, changes, number):
    """All least sets of the changes that lift the store to this number, each as the tuple of their indexes."""
    check_store(store)
    check_wanted(wanted)
    _check_changes(changes)
    if not is_number(number, 0, _GREATEST):
        raise InvalidNumber(number)
    if len(store) + len([name for name, _ in changes if name not in store]) > MOST_BOXES:
        raise TooMany(MOST_BOXES)
    found = []
    for chosen in _smaller_sets_first(len(changes)):
        # More changes can also make a store weaker, so parts of all sizes are looked for.
        if not any([_has_part(chosen, part) for part in found]):
            if strength(_mended(store, changes, chosen), wanted) >= number:
                found.append(chosen)
    return tuple(found)


def _check_changes(changes):
    """Raises InvalidChanges for anything but a tuple of at most six pairs (name, formula) with different names."""
    if not isinstance(changes, tuple):
        raise InvalidChanges(None)
    wrong = wrong_pair(changes, MOST_CHANGES)
    if wrong is not None:
        raise InvalidChanges(wrong)


def _smaller_sets_first(count):
    """All sets of so many indexes, each as an ascending tuple; smaller ones first, equally large ones ascending."""
    sets = [tuple([index for index in range(count) if number >> index & 1]) for number in range(1 << count)]
    return [chosen for _, chosen in sorted([(len(chosen), chosen) for chosen in sets])]


def _has_part(chosen, part):
    """Whether all indexes of the part are chosen."""
    return all([index in chosen for index in part])


def _mended(store, changes, chosen):
    """The store with the chosen changes."""
    for index in chosen:
        name, formula = changes[index]
        store = store.changed(name, formula)
    return store
