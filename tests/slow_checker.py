"""The checker, done in a plain and slow way by the words of point 18 to hold the program against.

Nothing of the program is asked here: formulas are trees, kinds small objects with their turns, cells objects with
the parts of their rows.
"""

import itertools
import re
import types

import slow
import slow_chains
import slow_scripts

KINDS = {
    ("calm " if calm else "") + turns: types.SimpleNamespace(turns=turns, calm=calm)
    for turns in slow.LOTS for calm in (False, True)}
NAME = re.compile("[a-z][a-z0-9]{0,7}")
MISSING = object()


class Wrong(Exception):
    """Something that makes a claim or a certificate wrong."""


def need(test):
    """Goes on only if the test holds."""
    if not test:
        raise Wrong()


def is_integer(value, least, most):
    """Whether it is an integer from the least to the most."""
    return value.__class__ is int and least <= value <= most


def is_tuple(value, count=None):
    """Whether it is a tuple, of so many elements."""
    return value.__class__ is tuple and (count is None or len(value) == count)


def is_name(value):
    """Whether it is a name."""
    return value.__class__ is str and NAME.fullmatch(value) is not None


def read_tree(text):
    """The tree of a formula with this text."""
    need(text.__class__ is str and text.count("(") <= 8)
    tree, rest = read_ahead(text)
    need(rest == "")
    return tree


def read_ahead(text):
    """The tree at the beginning of a text, and what stands behind it."""
    if not text.startswith("("):
        name = re.match("[a-z0-9]*", text)[0]
        need(is_name(name))
        return name, text[len(name):]
    left, text = read_ahead(text[1:])
    sign = [sign for sign in slow.SIGNS if text.startswith(f" {sign} ")]
    need(len(sign) == 1)
    right, text = read_ahead(text[len(sign[0]) + 2:])
    need(text.startswith(")"))
    return (sign[0], left, right), text[1:]


def read_kind(text):
    """The kind with this text."""
    need(text.__class__ is str and text in KINDS)
    return KINDS[text]


def read_script(text):
    """Kind, boxes and rows of the script with this text."""
    need(text.__class__ is str)
    lines = text.split("\n")
    need(3 <= len(lines) <= 14)
    kind, boxes, rows = read_kind(lines[0]), lines[1].split(" "), lines[2:]
    need(all(map(is_name, boxes)) and len(set(boxes)) == len(boxes) <= 6)
    need(sum(map(slow_scripts.is_test, rows)) <= 4)
    for at, row in enumerate(rows):
        go, test, setting = [form.fullmatch(row) for form in (
            slow_scripts.GO, slow_scripts.TEST, slow_scripts.SETTING)]
        need(go or test or setting)
        if go:
            need(at + 1 <= int(go[1]) <= len(rows))
        elif test:
            need(at + 2 <= int(test[4]) <= len(rows) and {test[2], test[3]} <= set(boxes))
        else:
            need({setting[1], setting[2], setting[4] or setting[2]} <= set(boxes))
    return kind, boxes, tuple(rows)


def read_cell(row):
    """The cell with this row."""
    need(is_tuple(row, 9))
    kind = read_kind(row[0])
    ins, inner, outs, triples, stored, wanted, begin, end = row[1:]
    need(all(is_tuple(part) for part in row[1:]))
    names = ins + inner + outs
    need(all(map(is_name, names)) and len(set(names)) == len(names))
    need(len(ins) == len(outs) <= 3 and len(inner) <= 6 and len(triples) <= 8)
    need(all(is_tuple(triple, 3) and all(is_name(name) and name in names for name in triple) for triple in triples))
    for part, known, least, most in ((stored, inner + outs, 0, 6), (wanted, inner + outs, 1, 9), (begin, ins, 0, 3),
                                     (end, outs, 0, 3)):
        need(least <= len(part) <= most and all(is_name(name) and name in known for name in part))
        need(len(set(part)) == len(part))
    need(slow_chains.first_clash(kind, ins, inner, outs, triples) is None)
    return types.SimpleNamespace(kind=kind, ins=ins, inner=inner, outs=outs, triples=triples, stored=stored,
                                 wanted=wanted, begin=begin, end=end)


def read_facts(facts):
    """The facts as pairs of trees."""
    need(is_tuple(facts) and len(facts) <= 4 and all(is_tuple(fact, 2) for fact in facts))
    return [(read_tree(one), read_tree(other)) for one, other in facts]


def all_trees(facts, trees):
    """The letters and the operations of a claim, in its order."""
    parts = {part for tree in [side for fact in facts for side in fact] + trees for part in slow.parts_of(tree)}
    order = sorted(parts, key=lambda part: (slow.operations(part), slow.text_of(part)))
    return [part for part in order if isinstance(part, str)], [part for part in order if not isinstance(part, str)]


class Equal:
    """What is known to be equal: a list of sets of things."""

    def __init__(self, pairs):
        self.lots = []
        for one, other in pairs:
            self.join(one, other)

    def lot(self, thing):
        """All that is equal to it."""
        return next((lot for lot in self.lots if thing in lot), {thing})

    def same(self, one, other):
        """Whether the two are equal."""
        return one in self.lot(other)

    def join(self, one, other):
        """They are equal from now on."""
        both = self.lot(one) | self.lot(other)
        self.lots = [lot for lot in self.lots if not lot & both] + [both]


def merge_all(kind, triples, equal, mergings):
    """Goes through the mergings."""
    need(is_tuple(mergings))
    turns = slow.LOTS[kind.turns]

    def image(index, turn):
        need(is_integer(index, 0, len(triples) - 1) and is_tuple(turn, 3))
        need(all(is_integer(place, 0, 2) for place in turn) and turn in turns)
        return tuple(triples[index][place] for place in turn)

    for merging in mergings:
        need(is_tuple(merging, 5) and is_integer(merging[4], 0, 2))
        i, turn, j, other_turn, place = merging
        one, two = [at for at in range(3) if at != place]
        first = image(i, turn)
        if kind.calm and j is None and other_turn is None:
            need(equal.same(first[one], first[two]))
            equal.join(first[place], first[one])
        else:
            second = image(j, other_turn)
            need(equal.same(first[one], second[one]) and equal.same(first[two], second[two]))
            equal.join(first[place], second[place])


def read_beginning(kind, size, triples):
    """All triples of the beginning."""
    need(is_integer(size, 0, 600) and is_tuple(triples))
    need(all(is_tuple(triple, 3) and all(is_integer(thing, 0, size - 1) for thing in triple) for triple in triples))
    found = slow.with_images(kind, triples) | {(thing, thing, thing) for thing in range(size) if kind.calm}
    need(not slow.have_clash(found))
    return frozenset(found)


def values(triples, size, contents, facts, trees):
    """The values of the trees with these contents, with which the facts hold."""
    letters, _ = all_trees(facts, trees)
    need(is_tuple(contents) and all(is_tuple(pair, 2) for pair in contents))
    need(all(is_name(name) and is_integer(thing, 0, size - 1) for name, thing in contents))
    need([name for name, _ in contents] == letters)
    found = [slow.value_in(triples, tree, dict(contents)) for tree in trees]
    for one, other in facts:
        sides = [slow.value_in(triples, side, dict(contents)) for side in (one, other)]
        need(None not in sides and sides[0] == sides[1])
    need(None not in found)
    return found


def follows(certificate, kind, facts, one, other):
    kind, facts, trees = read_kind(kind), read_facts(facts), [read_tree(one), read_tree(other)]
    _, operations = all_trees(facts, trees)
    equal = Equal(facts)
    merge_all(kind, [slow.operation_triple(tree) for tree in operations], equal, certificate)
    need(equal.same(*trees))


def apart(certificate, kind, facts, one, other):
    kind, facts, trees = read_kind(kind), read_facts(facts), [read_tree(one), read_tree(other)]
    need(is_tuple(certificate, 3))
    size, triples, contents = certificate
    found = values(read_beginning(kind, size, triples), size, contents, facts, trees)
    need(found[0] != found[1])


def tells(certificate, kind, facts, kept, wanted):
    kind, facts, wanted = read_kind(kind), read_facts(facts), read_tree(wanted)
    need(is_tuple(kept) and len(kept) <= 6)
    kept = [read_tree(text) for text in kept]
    _, operations = all_trees(facts, kept + [wanted])
    equal, triples = Equal(facts), [slow.operation_triple(tree) for tree in operations]
    need(is_tuple(certificate, 2) and is_tuple(certificate[1]))
    merge_all(kind, triples, equal, certificate[0])
    got = list(kept)
    for step in certificate[1]:
        need(is_tuple(step, 2) and is_integer(step[0], 0, len(triples) - 1) and is_integer(step[1], 0, 2))
        triple = triples[step[0]]
        need(all(any(equal.same(triple[at], tree) for tree in got) for at in range(3) if at != step[1]))
        got.append(triple[step[1]])
    need(any(equal.same(wanted, tree) for tree in got))


def open_(certificate, kind, facts, kept, wanted):
    kind, facts, wanted = read_kind(kind), read_facts(facts), read_tree(wanted)
    need(is_tuple(kept) and len(kept) <= 6 and is_tuple(certificate, 4))
    trees = [read_tree(text) for text in kept] + [wanted]
    size, triples, contents, others = certificate
    triples = read_beginning(kind, size, triples)
    first, second = [values(triples, size, those, facts, trees) for those in (contents, others)]
    need(first[:-1] == second[:-1] and first[-1] != second[-1])


def can(certificate, script, row):
    kind, boxes, rows = read_script(script)
    need(is_integer(row, 0, len(rows)) and is_tuple(certificate, 3))
    size, triples, things = certificate
    triples = read_beginning(kind, size, triples)
    need(is_tuple(things, len(boxes)) and all(is_integer(thing, 0, size - 1) for thing in things))
    _, held, at = slow_scripts.come_to(triples, rows, dict(zip(boxes, things)), row)
    need(held is not None and at == row)


def never(certificate, script, row):
    kind, boxes, rows = read_script(script)
    need(is_integer(row, 0, len(rows)) and is_tuple(certificate))
    need(all(is_tuple(part, 3) and is_tuple(part[0]) for part in certificate))
    need(all(is_integer(at, 0, 12) for part in certificate for at in part[0]))
    need(sorted(part[0] for part in certificate) == slow_scripts.ways(rows, row))
    for way, index, mergings in certificate:
        story = slow_scripts.Story(rows, way, row, {box: ("first", box) for box in boxes}, "made")
        need(is_integer(index, 0, len(story.unlike) - 1))
        equal = Equal(story.equal)
        merge_all(kind, story.triples, equal, mergings)
        need(equal.same(*story.unlike[index]))


def withstands(certificate, row, most):
    cell = read_cell(row)
    need(is_integer(most, 0, 9) and is_tuple(certificate))
    found = {}
    for pair in certificate:
        need(is_tuple(pair, 2) and is_tuple(pair[0], 2 ** len(cell.outs)) and is_integer(pair[1], 0, most))
        need(all(is_tuple(one, 2) and is_integer(one[0], 0, len(pair[0]) - 1) and one[1].__class__ is bool
                 for one in pair[0]))
        need(pair[0] not in found)
        found[pair[0]] = pair[1]
    need(found.get(slow_chains.border_function(cell, 0, ()), MISSING) == 0)
    for function, lost in found.items():
        need(function[slow_chains.sets_of(cell.outs).index([name for name in cell.outs if name in cell.end])][1])
        for many in range(min(most - lost, len(cell.stored)) + 1):
            for names in itertools.combinations(cell.stored, many):
                need(found.get(slow_chains.one_more(cell, function, names), 99) <= lost + many)


def breaks(certificate, row, count, lost):
    cell = read_cell(row)
    need(is_integer(count, 1, 200) and is_tuple(lost) and is_tuple(certificate))
    for things, known in ((lost, slow_chains.stored(cell, count)), (certificate, slow_chains.things(cell, count))):
        need(all(is_tuple(one, 2) and is_integer(one[0], 0, count) and one[1].__class__ is str for one in things))
        need(set(things) <= set(known) and sorted(set(things)) == list(things))
    need(set(slow_chains.kept(cell, count, lost)) <= set(certificate))
    need(slow.all_got(slow_chains.triples(cell, count), certificate) == set(certificate))
    need(not set(slow_chains.wanted(cell, count)) <= set(certificate))


FORMS = {"follows": (follows, 4), "apart": (apart, 4), "tells": (tells, 4), "open": (open_, 4), "can": (can, 2),
         "never": (never, 2), "withstands": (withstands, 2), "breaks": (breaks, 3)}


def judge(claim, certificate):
    """Whether it is a claim, and the certificate is one for it."""
    if not is_tuple(claim) or not claim or claim[0].__class__ is not str or claim[0] not in FORMS:
        return False
    form, count = FORMS[claim[0]]
    if len(claim) != count + 1:
        return False
    try:
        form(certificate, *claim[1:])
    except Wrong:
        return False
    return True
