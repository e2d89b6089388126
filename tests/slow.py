"""The definitions of the document, done in a plain and slow way to hold the program against.

A formula is a tree here: the name of a letter, or a tuple (sign, left tree, right tree). A rule is a pair of
its size and the set of its triples.
"""

import functools
import itertools

from thirdback.formulas import letter

SIGNS = ("*", "//", ">>")
LOTS = {
    "plain": ((0, 1, 2),), "sides": ((0, 1, 2), (1, 0, 2)), "front": ((0, 1, 2), (2, 1, 0)),
    "back": ((0, 1, 2), (0, 2, 1)), "round": ((0, 1, 2), (1, 2, 0), (2, 0, 1)),
    "all": tuple(itertools.permutations(range(3))),
}


def text_of(tree):
    """The text of a formula."""
    return tree if isinstance(tree, str) else f"({text_of(tree[1])} {tree[0]} {text_of(tree[2])})"


def made_of(tree):
    """The program's formula, made by letters and signs."""
    if isinstance(tree, str):
        return letter(tree)
    left, right = made_of(tree[1]), made_of(tree[2])
    return left * right if tree[0] == "*" else left // right if tree[0] == "//" else left >> right


def tree_of(formula):
    """The tree of one of the program's formulas."""
    return formula.name if formula.sign == "" else (formula.sign, tree_of(formula.left), tree_of(formula.right))


def operations(tree):
    """How many operations it has."""
    return 0 if isinstance(tree, str) else 1 + operations(tree[1]) + operations(tree[2])


def parts_of(tree):
    """The set of its parts."""
    return {tree} if isinstance(tree, str) else {tree} | parts_of(tree[1]) | parts_of(tree[2])


def letters_of(trees):
    """The ascending names of all letters in them."""
    return sorted({part for tree in trees for part in parts_of(tree) if isinstance(part, str)})


def operation_triple(tree):
    """The triple of an operation."""
    sign, left, right = tree
    return {"*": (left, right, tree), "//": (tree, right, left), ">>": (left, tree, right)}[sign]


def with_images(kind, triples):
    """The set of all images of the triples."""
    return {(t[i], t[j], t[k]) for t in triples for i, j, k in LOTS[kind.turns]}


def have_clash(triples):
    """Whether two different triples have equal things at two places."""
    return any(len({(t[i], t[j]) for t in triples}) < len(set(triples)) for i, j in ((0, 1), (0, 2), (1, 2)))


def is_beginning(kind, size, triples):
    """Whether these are all the triples of a beginning of the kind with so many things."""
    return (all(0 <= thing < size for t in triples for thing in t) and with_images(kind, triples) == set(triples)
            and (not kind.calm or all((a, a, a) in triples for a in range(size))) and not have_clash(triples))


def value_in(triples, tree, contents):
    """The value of a formula, the contents being a dict; None if it is not known."""
    if isinstance(tree, str):
        return contents.get(tree)
    left, right = value_in(triples, tree[1], contents), value_in(triples, tree[2], contents)
    if left is None or right is None:
        return None
    return _index(triples).get((tree[0], left, right))


@functools.lru_cache(maxsize=512)
def _index(triples):
    """A dict of what each sign makes of two things, for a frozen set of triples."""
    made = {}
    for first, second, mixed in triples:
        made["*", first, second] = mixed
        made["//", mixed, second] = first
        made[">>", first, mixed] = second
    return made


def all_contents(size, names):
    """All contents of these letters, as dicts."""
    for things in itertools.product(range(size), repeat=len(names)):
        yield dict(zip(names, things))


def latin_rules(size):
    """All rules with so many things."""
    rows = list(itertools.permutations(range(size)))

    def longer(table):
        if len(table) == size:
            yield table
            return
        for row in rows:
            if all(row[at] != above[at] for above in table for at in range(size)):
                yield from longer(table + (row,))

    for table in longer(()):
        yield size, frozenset((i, j, table[i][j]) for i in range(size) for j in range(size))


def linear_rules(size):
    """The rules a * b = p a + q b + r over the numbers 0 to size - 1, size being a prime number."""
    for p, q, r in itertools.product(range(1, size), range(1, size), range(size)):
        yield size, frozenset((i, j, (p * i + q * j + r) % size) for i in range(size) for j in range(size))


LINES = ((0, 1, 2), (0, 3, 4), (0, 5, 6), (1, 3, 5), (1, 4, 6), (2, 3, 6), (2, 4, 5))


def seven_points():
    """A calm rule of the kind `all`: the third point of a line through two of seven points."""
    triples = {image for line in LINES for image in itertools.permutations(line)}
    return 7, frozenset(triples | {(point, point, point) for point in range(7)})


def rules_of(kind, most=12):
    """Some whole rules of the kind: all with at most three things, and some larger ones."""
    return _rules(kind.turns, kind.calm, most)


@functools.lru_cache(maxsize=None)
def _rules(turns, calm, most):
    def fits(rule):
        size, triples = rule
        turned = {(t[i], t[j], t[k]) for t in triples for i, j, k in LOTS[turns]}
        return turned == triples and (not calm or all((a, a, a) in triples for a in range(size)))

    small = [rule for size in (1, 2, 3) for rule in latin_rules(size) if fits(rule)]
    large = [rule for rule in _large_rules() if fits(rule)]
    step = max(1, len(large) // most)
    return tuple(small + large[::step][:most])


@functools.lru_cache(maxsize=None)
def _large_rules():
    return tuple(latin_rules(4)) + tuple(linear_rules(5)) + (seven_points(),)


def classes(kind, facts, trees):
    """The closed table of point 10: a dict from each part to one of the parts that are equal to it."""
    trees = list(trees) + [side for fact in facts for side in fact]
    parts = {part for tree in trees for part in parts_of(tree)}
    return closed(kind, parts, [operation_triple(part) for part in parts if not isinstance(part, str)], facts)


def closed(kind, things, triples, equal):
    """A dict from each thing to one of the things that are equal to it in the closed table of these triples."""
    triples = with_images(kind, triples)
    if kind.calm:
        triples |= {(thing, thing, thing) for thing in things}
    same = {thing: thing for thing in things}

    def join(one, other):
        old, new = same[one], same[other]
        for thing in things:
            if same[thing] == old:
                same[thing] = new

    for one, other in equal:
        join(one, other)
    while True:
        clash = _one_clash(triples, same)
        if clash is None:
            return same
        join(*clash)


def _one_clash(triples, same):
    """The third things of two triples with equal things at two places, where these are not equal yet."""
    for i, j, k in ((0, 1, 2), (0, 2, 1), (1, 2, 0)):
        seen = {}
        for t in triples:
            other = seen.setdefault((same[t[i]], same[t[j]]), t[k])
            if same[other] != same[t[k]]:
                return other, t[k]
    return None


def alike(kind, facts, one, other):
    """Whether two formulas are equal in the closed table of both and the facts."""
    same = classes(kind, facts, (one, other))
    return same[one] == same[other]


def got(kind, facts, kept, wanted):
    """Whether the wanted formula is got in the closed table of point 11."""
    same = classes(kind, facts, tuple(kept) + (wanted,))
    triples = [tuple(same[part] for part in operation_triple(tree)) for tree in same if not isinstance(tree, str)]
    return same[wanted] in all_got(triples, [same[tree] for tree in kept])


def all_got(triples, kept):
    """The set of the things that are got from the kept ones."""
    found = set(kept)
    while True:
        more = {t[place] for t in triples for place in range(3)
                if all(t[at] in found for at in range(3) if at != place)} - found
        if not more:
            return found
        found |= more


def random_tree(random, names, count):
    """A tree with so many operations."""
    if count == 0:
        return random.choice(names)
    left = random.randrange(count)
    return (random.choice(SIGNS), random_tree(random, names, left), random_tree(random, names, count - 1 - left))


def reworked(random, names, tree):
    """A longer tree that is often alike: some part is mixed with something, and this is undone again."""
    if not isinstance(tree, str) and random.random() < 0.6:
        sign, left, right = tree
        if random.random() < 0.5:
            return sign, reworked(random, names, left), right
        return sign, left, reworked(random, names, right)
    other = random.choice(names)
    return random.choice((
        ("//", ("*", tree, other), other), (">>", other, ("*", other, tree)), ("*", ("//", tree, other), other),
        ("*", other, (">>", other, tree)), ("//", other, (">>", tree, other)), (">>", ("//", other, tree), other),
        ("*", other, ("*", other, tree)), ("*", ("*", tree, other), other), ("*", ("*", other, tree), other),
        ("*", other, ("*", tree, other)), ("*", tree, tree), ("//", other, ("*", other, tree)),
    ))


def random_question(random, most_facts=2, names=("a", "b", "c")):
    """Facts, and two formulas that are alike under them now and then."""
    one = random_tree(random, names, random.randint(0, 3))
    other = one
    for _ in range(random.randint(0, 2)):
        other = reworked(random, names, other)
    facts = []
    for _ in range(random.randint(0, most_facts)):
        left = random_tree(random, names, random.randint(0, 2))
        facts.append((left, random_tree(random, names, random.randint(1, 3))))
    if facts and random.random() < 0.4:
        one, other = replaced(other, *facts[0]), replaced(other, *facts[-1][::-1])
    if random.random() < 0.3:
        other = random_tree(random, names, random.randint(0, 3))
    one, other = [tree if operations(tree) <= 8 else random.choice(names) for tree in (one, other)]
    return tuple(facts), one, other


def replaced(tree, part, other):
    """The tree with another one in the place of a part, if it has at most eight operations."""
    if tree == part:
        return other
    if isinstance(tree, str):
        return tree
    new = (tree[0], replaced(tree[1], part, other), replaced(tree[2], part, other))
    return new if operations(new) <= 8 else tree


def made_facts(facts):
    """The program's facts."""
    return tuple([(made_of(one), made_of(other)) for one, other in facts])


def fitting_contents(rule, facts, names):
    """All contents of these letters in a whole rule with which the facts hold."""
    size, triples = rule
    return [contents for contents in all_contents(size, names) if all(
        value_in(triples, one, contents) == value_in(triples, other, contents) for one, other in facts)]
