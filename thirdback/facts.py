"""What follows from facts in all rules of a kind: what is alike, and what is told."""

from thirdback.beginnings import check_beginning, signed_value
from thirdback.errors import NotWhole, TooMany
from thirdback.formulas import check_facts, check_formula, check_formulas, step_to
from thirdback.kinds import check_kind
from thirdback.limits import MOST_TRIALS
from thirdback.tables import Table, all_parts, needed_things


def follows(kind, facts, one, other):
    """Whether the two formulas are alike under the facts."""
    return _pair_table(kind, facts, one, other).alike(one, other)


def equal_parts(kind, facts, formulas):
    """For each formula the index of the first one that is alike."""
    check_kind(kind)
    check_facts(facts)
    check_formulas(formulas)
    table = Table(kind, facts, formulas)
    things = [table.thing(formula) for formula in formulas]
    return tuple([things.index(thing) for thing in things])


def possible(kind, facts, unlike):
    """Whether the facts can hold where both formulas of each unlike pair differ."""
    check_kind(kind)
    check_facts(facts)
    check_facts(unlike)
    table = Table(kind, facts, [side for pair in unlike for side in pair])
    return not any([table.alike(one, other) for one, other in unlike])


def apart(kind, facts, one, other):
    """None if the two are alike, otherwise a beginning and contents with which they differ."""
    table = _pair_table(kind, facts, one, other)
    if table.alike(one, other):
        return None
    return table.shown()


def tells(kind, facts, kept, wanted):
    """Whether the kept formulas tell the wanted one."""
    table = _telling_table(kind, facts, kept, wanted)
    return table.thing(wanted) in table.got(kept)


def told(kind, facts, kept, asked):
    """The tuple of the asked formulas that the kept ones tell."""
    check_kind(kind)
    check_facts(facts)
    check_formulas(kept)
    check_formulas(asked)
    table = Table(kind, facts, kept + asked)
    got = table.got(kept)
    return tuple([formula for formula in asked if table.thing(formula) in got])


def recipe(kind, facts, kept, wanted):
    """None if the wanted formula is not told, otherwise steps that make it, and the index of its item."""
    table = _telling_table(kind, facts, kept, wanted)
    how = table.got(kept)
    goal = table.thing(wanted)
    if goal not in how:
        return None
    items = {}
    for index, formula in enumerate(kept):
        items.setdefault(table.thing(formula), index)
    steps = []
    for thing in needed_things(how, goal):
        place, triple = how[thing]
        sign, one, other = step_to(place, triple)
        items[thing] = len(kept) + len(steps)
        steps.append((sign, items[one], items[other]))
    return tuple(steps), items[goal]


def twins(kind, facts, kept, wanted):
    """None if the wanted formula is told, otherwise a beginning and two contents that show it is not."""
    table = _telling_table(kind, facts, kept, wanted)
    got = table.got(kept)
    if table.thing(wanted) in got:
        return None
    return table.shown_twice(got)


def tells_here(beginning, facts, kept, wanted):
    """Whether the kept formulas tell the wanted one in this whole rule."""
    check_beginning(beginning)
    if not beginning.whole:
        raise NotWhole(beginning)
    check_facts(facts)
    check_formulas(kept)
    check_formula(wanted)
    columns = _columns(beginning, [side for fact in facts for side in fact] + [*kept, wanted])
    found = {}
    for trial, value in enumerate(columns[str(wanted)]):
        if all([columns[str(one)][trial] == columns[str(other)][trial] for one, other in facts]):
            seen = tuple([columns[str(formula)][trial] for formula in kept])
            if found.setdefault(seen, value) != value:
                return False
    return True


def _pair_table(kind, facts, one, other):
    """The closed table of two formulas and facts, all of which are checked."""
    check_kind(kind)
    check_facts(facts)
    check_formula(one)
    check_formula(other)
    return Table(kind, facts, (one, other))


def _telling_table(kind, facts, kept, wanted):
    """The closed table of kept formulas, a wanted one and facts, all of which are checked."""
    check_kind(kind)
    check_facts(facts)
    check_formulas(kept)
    check_formula(wanted)
    return Table(kind, facts, (*kept, wanted))


def _columns(beginning, formulas):
    """For the text of each part of the formulas its values with all contents, always in one order."""
    parts = all_parts(formulas)
    trials = _trials(beginning.size, len([part for part in parts if part.name is not None]))
    columns = {}
    weight = 1
    for part in parts:
        if part.name is not None:
            columns[part.name] = [trial // weight % beginning.size for trial in range(trials)]
            weight = weight * beginning.size
        else:
            lefts, rights = columns[str(part.left)], columns[str(part.right)]
            columns[str(part)] = [signed_value(beginning, part.sign, left, right) for left, right in zip(lefts, rights)]
    return columns


def _trials(size, letters):
    """How many contents there are; raises TooMany above the limit."""
    trials = 1
    for _ in range(letters):
        trials = trials * size
    if trials > MOST_TRIALS:
        raise TooMany(MOST_TRIALS)
    return trials
