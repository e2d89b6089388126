"""Values bent at any place, to see what the checker says of them."""

import random

TURNS = ((0, 1, 2), (0, 2, 1), (1, 0, 2), (1, 2, 0), (2, 0, 1), (2, 1, 0))
OTHERS = (None, True, False, 0, 1, -1, "", "a", (), (0,), [], {}, b"a", object())


def bent(value):
    """Values near this one, each bent at just one place."""
    if isinstance(value, bool):
        yield from (not value, int(value), None)
    elif isinstance(value, int):
        yield from (value + 1, value - 1, -value - 1, str(value), None, (value,), value + 10 ** 20)
        if value in (0, 1):
            yield bool(value)
    elif isinstance(value, str):
        yield from (value + " ", value + "a", value[:-1], value[1:], value.upper(), "", value.encode(), (value,), None)
        for at in range(0, len(value), max(1, len(value) // 6)):
            yield value[:at] + "b" + value[at + 1:]
            yield value[:at] + value[at + 1:]
    elif isinstance(value, tuple):
        yield from bent_tuple(value)
    elif value is None:
        yield from (0, False, ())


def bent_tuple(value):
    """Tuples near this one."""
    yield from (list(value), value + (None,), (value,))
    if value in TURNS:
        yield from (turn for turn in TURNS if turn != value)
    for at, part in enumerate(value):
        yield value[:at] + value[at + 1:]
        yield value[:at] + (part, part) + value[at + 1:]
        for other in range(at):
            yield value[:other] + (part,) + value[other + 1:at] + (value[other],) + value[at + 1:]
        for new in bent(part):
            yield value[:at] + (new,) + value[at + 1:]


def some_bent(source, value, count):
    """So many of the values near this one, or all."""
    found = list(bent(value))
    return found if len(found) <= count else source.sample(found, count)


def often_bent(source, value, times):
    """The value, bent several times, each time at a place of its own."""
    for _ in range(times):
        value = source.choice(list(bent(value)) or [value])
    return value


def any_value(source, depth=0):
    """Any value that is not nested too deep."""
    if depth > 4 or source.random() < 0.4:
        return source.choice(OTHERS + ("plain", "(a * b)", "follows", 10 ** 30))
    parts = [any_value(source, depth + 1) for _ in range(source.randint(0, 4))]
    return source.choice((tuple(parts), parts, {at: part for at, part in enumerate(parts)}))


def make_source(seed):
    """A source of chances of its own."""
    return random.Random(seed)
