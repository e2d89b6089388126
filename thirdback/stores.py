"""Stores: boxes with formulas, which of them are enough to keep, and which losses are fatal."""

from thirdback.checks import check_chosen, is_name, is_one_of
from thirdback.errors import InvalidBoxes, InvalidFormulas, InvalidName, NotAStore, TooMany, UnknownName
from thirdback.formulas import Formula, check_facts, check_formula, check_formulas
from thirdback.kinds import check_kind
from thirdback.limits import MOST_BOXES
from thirdback.tables import Table


class Store:
    """Boxes with different names, each with a formula, and facts. Stores never change."""

    def __init__(self, kind, boxes, *, facts=()):
        check_kind(kind)
        _check_boxes(boxes)
        check_facts(facts)
        self._kind = kind
        self._boxes = boxes
        self._facts = facts
        self._names = tuple([name for name, _ in boxes])
        self._formulas = {name: formula for name, formula in boxes}

    @property
    def kind(self):
        """The kind of the rules."""
        return self._kind

    @property
    def boxes(self):
        """The pairs (name, formula) in their order."""
        return self._boxes

    @property
    def facts(self):
        """The pairs of formulas that have the same value."""
        return self._facts

    @property
    def names(self):
        """The names of the boxes in their order."""
        return self._names

    def changed(self, name, formula):
        """The store with this formula in the box of this name, a new one if there is none."""
        if not is_name(name):
            raise InvalidName(name)
        check_formula(formula)
        boxes = tuple([(box, formula if box == name else old) for box, old in self._boxes])
        if name not in self._formulas:
            boxes = boxes + ((name, formula),)
        if len(boxes) > MOST_BOXES:
            raise TooMany(MOST_BOXES)
        return Store(self._kind, boxes, facts=self._facts)

    def __getitem__(self, name):
        if name not in self:
            raise UnknownName(name)
        return self._formulas[name]

    def __contains__(self, name):
        return is_one_of(name, self._formulas)

    def __iter__(self):
        return iter(self._names)

    def __len__(self):
        return len(self._names)

    def __eq__(self, other):
        return (isinstance(other, Store) and self._kind == other._kind and self._boxes == other._boxes
                and self._facts == other._facts)


def restorable(store, names):
    """The names of all boxes whose formulas these boxes tell."""
    check_store(store)
    check_chosen(names, store.names)
    table = _store_table(store, ())
    got = table.got([store[name] for name in names])
    return tuple([name for name in store.names if table.thing(store[name]) in got])


def least_keeps(store, wanted):
    """All least sets of boxes that tell the wanted formulas, each as the names in their order."""
    keeps = _keeps(store, wanted)
    return _least_sets(store.names, keeps)


def least_losses(store, wanted):
    """All least sets of boxes without which the others do not tell the wanted formulas."""
    keeps = _keeps(store, wanted)
    # The complement of a set of boxes has the number that stands as far from the end.
    return _least_sets(store.names, [not keep for keep in keeps[::-1]])


def strength(store, wanted):
    """The greatest number such that no loss has at most so many boxes, -1 if the empty set is one."""
    return min([len(loss) for loss in least_losses(store, wanted)]) - 1


def boxes_tell(store, names, wanted):
    """Whether these boxes tell the formula."""
    table = _store_table(store, (wanted,))
    return table.thing(wanted) in table.got([store[name] for name in names])


def check_store(store):
    """Raises NotAStore for anything but a Store."""
    if not isinstance(store, Store):
        raise NotAStore(store)


def wrong_pair(pairs, most):
    """The index of the first that is no pair (name, formula), has an earlier name or is one too many, else None."""
    names = []
    for index, pair in enumerate(pairs):
        if index == most or not _is_pair(pair) or pair[0] in names:
            return index
        names.append(pair[0])
    return None


def check_wanted(wanted):
    """Raises InvalidFormulas for anything but a tuple of one to six formulas."""
    check_formulas(wanted)
    if len(wanted) == 0:
        raise InvalidFormulas(None)


def _check_boxes(boxes):
    """Raises InvalidBoxes for anything but a tuple of one to eight pairs (name, formula) with different names."""
    if not isinstance(boxes, tuple) or len(boxes) == 0:
        raise InvalidBoxes(None)
    wrong = wrong_pair(boxes, MOST_BOXES)
    if wrong is not None:
        raise InvalidBoxes(wrong)


def _is_pair(value):
    """Whether it is a pair (name, formula)."""
    return isinstance(value, tuple) and len(value) == 2 and is_name(value[0]) and isinstance(value[1], Formula)


def _store_table(store, wanted):
    """The closed table of the boxes' formulas and the wanted ones."""
    return Table(store.kind, store.facts, [formula for _, formula in store.boxes] + list(wanted))


def _keeps(store, wanted):
    """For each set of boxes, written as the sum of 2**i for their indexes i, whether it is a keep."""
    check_store(store)
    check_wanted(wanted)
    # What is got does not depend on how many formulas the table has beside those in question.
    table = _store_table(store, wanted)
    formulas = [formula for _, formula in store.boxes]
    keeps = []
    for number in range(1 << len(formulas)):
        got = table.got([formula for index, formula in enumerate(formulas) if number >> index & 1])
        keeps.append(all([table.thing(formula) in got for formula in wanted]))
    return keeps


def _least_sets(names, flags):
    """The sets with a flag that have none when one name is left out; more names never lose the flag."""
    found = []
    for number, flag in enumerate(flags):
        members = [index for index in range(len(names)) if number >> index & 1]
        if flag and not any([flags[number - (1 << index)] for index in members]):
            found.append((len(members), members))
    return tuple([tuple([names[index] for index in indexes]) for _, indexes in sorted(found)])
