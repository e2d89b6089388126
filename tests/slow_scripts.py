"""Scripts, done in a plain and slow way by the words of points 12 and 13 to hold the program against."""

import itertools
import re

import slow

SETTING = re.compile(r"([a-z0-9]+) = ([a-z0-9]+)(?: (\*|//|>>) ([a-z0-9]+))?")
TEST = re.compile(r"(same|unlike) ([a-z0-9]+) ([a-z0-9]+) ([1-9][0-9]*)")
GO = re.compile(r"go ([1-9][0-9]*)")


def is_test(row):
    """Whether it is a row with a test."""
    return TEST.fullmatch(row) is not None


def come_to(triples, rows, held, goal):
    """Does the rows until the index, or one behind it, comes: the way, what the boxes hold, and this index.

    None in the place of what the boxes hold if the value of the row at the index is not known.
    """
    held, at, way = dict(held), 0, ()
    while at < goal:
        if GO.fullmatch(rows[at]):
            following = int(GO.fullmatch(rows[at])[1])
        elif is_test(rows[at]):
            word, one, other, number = TEST.fullmatch(rows[at]).groups()
            following = int(number) if (held[one] == held[other]) == (word == "same") else at + 1
        else:
            box, one, sign, other = SETTING.fullmatch(rows[at]).groups()
            held[box] = held[one] if sign is None else slow.value_in(triples, (sign, one, other), held)
            if held[box] is None:
                return way, None, at
            following = at + 1
        way, at = way + (at,), following
    return way, held, at


def ways(rows, goal):
    """All ways to the index, ascending: what comes of all choices at the tests."""
    tests = [at for at, row in enumerate(rows) if is_test(row)]
    found = set()
    for choices in itertools.product((False, True), repeat=len(tests)):
        at, way = 0, ()
        while at < goal:
            way = way + (at,)
            jumps = GO.fullmatch(rows[at]) or (at in tests and choices[tests.index(at)])
            at = int(rows[at].split()[-1]) if jumps else at + 1
        if at == goal:
            found.add(way)
    return sorted(found)


class Story:
    """What a way says: its things, the triples of its operations, and its equal and unlike pairs."""

    def __init__(self, rows, way, goal, held, mark):
        self.first, self.held = dict(held), dict(held)
        self.things, self.triples, self.equal, self.unlike = list(held.values()), [], [], []
        for at, following in zip(way, (*way[1:], goal)):
            if is_test(rows[at]):
                word, one, other, number = TEST.fullmatch(rows[at]).groups()
                jumps = following == int(number)
                (self.equal if jumps == (word == "same") else self.unlike).append((self.held[one], self.held[other]))
            elif not GO.fullmatch(rows[at]):
                self.set(*SETTING.fullmatch(rows[at]).groups(), (mark, at))

    def set(self, box, one, sign, other, new):
        """The box holds what the other one holds, or the new thing."""
        if sign is None:
            self.held[box] = self.held[one]
            return
        left, right = self.held[one], self.held[other]
        self.triples.append({"*": (left, right, new), "//": (new, right, left), ">>": (left, new, right)}[sign])
        self.things.append(new)
        self.held[box] = new


def stories(boxes, rows, goal, mark="made", first="first"):
    """The stories of all ways to the index."""
    held = {box: (first, box) for box in boxes}
    return [Story(rows, way, goal, held, mark) for way in ways(rows, goal)]


def together(kind, told, more=()):
    """The closed table of stories in one rule, and of more equal ones; None if they cannot be together."""
    things = {thing for story in told for thing in story.things}
    same = slow.closed(kind, things, [t for story in told for t in story.triples],
                       [pair for story in told for pair in story.equal] + list(more))
    if any(same[one] == same[other] for story in told for one, other in story.unlike):
        return None
    return same


def reachable(kind, boxes, rows):
    """All indexes with a possible way, ascending."""
    return tuple(goal for goal in range(len(rows) + 1) if any(
        together(kind, [story]) is not None for story in stories(boxes, rows, goal)))


def surely_same(kind, boxes, rows, goal, one, other):
    """Whether no possible way to the index leaves the two boxes with different things."""
    for story in stories(boxes, rows, goal):
        same = together(kind, [story])
        if same is not None and same[story.held[one]] != same[story.held[other]]:
            return False
    return True


def same_ends(kind, boxes, rows, others, chosen):
    """Whether no two ways through both scripts, with the same first contents, end with different things in a box."""
    for story in stories(boxes, rows, len(rows)):
        for other in stories(boxes, others, len(others), mark="other"):
            same = together(kind, [story, other])
            if same is not None and any(same[story.held[box]] != same[other.held[box]] for box in chosen):
                return False
    return True


def gives_back(kind, boxes, rows, kept, wanted):
    """Whether no two ways through the script that end alike in the kept boxes begin differently in the wanted one."""
    for story in stories(boxes, rows, len(rows)):
        for other in stories(boxes, rows, len(rows), mark="other", first="second"):
            ends = [(story.held[box], other.held[box]) for box in kept]
            same = together(kind, [story, other], ends)
            if same is not None and same[story.first[wanted]] != same[other.first[wanted]]:
                return False
    return True


def random_rows(source, boxes, count, most_tests=4):
    """So many rows with these boxes, which often make again what was there before."""
    rows, tests, made = [], 0, []
    for at in range(count):
        a, b, c = source.choices(boxes, k=3)
        choice = source.random()
        if choice < 0.25 and at + 2 <= count and tests < most_tests:
            rows.append(f"{source.choice(('same', 'unlike'))} {a} {b} {source.randint(at + 2, count)}")
            tests += 1
        elif choice < 0.32:
            rows.append(f"go {source.randint(at + 1, min(at + 3, count))}")
        elif choice < 0.42:
            rows.append(f"{a} = {b}")
        elif made and choice < 0.8:
            rows.append(source.choice(again(*source.choice(made))).replace("?", a))
        else:
            sign = source.choice(slow.SIGNS)
            rows.append(f"{a} = {b} {sign} {c}")
            made.append((a, b, sign, c))
    return tuple(rows)


def again(a, b, sign, c):
    """Rows that make one of the two sides of an operation, or the same once more; ? is the box to fill."""
    return {
        "*": (f"? = {a} // {c}", f"? = {b} >> {a}", f"? = {b} * {c}", f"? = {c} * {b}", f"? = {b} * {a}"),
        "//": (f"? = {a} * {c}", f"? = {a} >> {b}", f"? = {b} // {c}", f"? = {b} * {c}"),
        ">>": (f"? = {b} * {a}", f"? = {c} // {a}", f"? = {b} >> {c}", f"? = {c} >> {b}"),
    }[sign]


def random_scripts(source, kinds, count, most_rows=7):
    """For each kind so many scripts as (kind, boxes, rows)."""
    for kind in kinds:
        for _ in range(count):
            boxes = tuple(source.sample(("a", "b", "s", "t", "x1", "go", "same"), source.randint(1, 4)))
            yield kind, boxes, random_rows(source, boxes, source.randint(1, most_rows))
