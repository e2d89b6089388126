"""What several tests need: values of all sorts, checks of errors with what they keep, and wrong arguments."""

import slow
from thirdback import errors
from thirdback.beginnings import Beginning
from thirdback.formulas import letter
from thirdback.kinds import Kind

MANY_DIGITS = 10 ** 39 + 7

ODD_VALUES = (
    None, True, False, 0, 1, -1, 7, MANY_DIGITS, -MANY_DIGITS,
    "", " ", "a", "Plain", b"", b"plain", (), (0,), (0, 1, 2), ("plain",), ((0, 1, 2),),
    [], [0, 1, 2], ["plain"], [[], [{}]], {}, {"plain": True}, {0: [1]}, {1}, object(), object, len,
)
NO_TUPLES = tuple([value for value in ODD_VALUES if not isinstance(value, tuple)])


class EqualToAll:
    """A value that says of itself that it is equal to everything."""

    def __eq__(self, other):
        return True

    def __hash__(self):
        return hash("a")


EQUAL_TO_ALL = EqualToAll()

LISTED_TURNS = ("plain", "sides", "front", "back", "round", "all")
KINDS = tuple([Kind(turns, calm=calm) for calm in (False, True) for turns in LISTED_TURNS])

A, B, C = letter("a"), letter("b"), letter("c")
NO_FORMULAS = ODD_VALUES + ("(a * b)", [A], (A,), (A, B), {"a": A}, Kind("all"), A.__class__)

NO_NAMES = tuple([value for value in ODD_VALUES if value != "a"]) + (
    "A", "aB", "0", "0a", "9", "_", "_a", "a_", "a b", " a", "a ", "a\n", "\na", "a-b", "a.b", "a*", "(a", "a)",
    "(a)", "abcdefghi", "a12345678", "a" * 9, "a" * 4000, "aZ", "a{", "`", "{", "a/", "a:", A, ("a",), b"a")
NO_BEGINNINGS = ODD_VALUES + (A, Kind("all"), Beginning, (Beginning(Kind("all"), 0),), ((0, 0, 0),))


def assert_error(case, error, attribute, expected, action):
    """The call raises just this class of error, which keeps the very value (or an equal integer)."""
    with case.assertRaises(error) as caught:
        action()
    case.assertIs(error, caught.exception.__class__)
    case.assertEqual([attribute], list(vars(caught.exception)))
    kept = getattr(caught.exception, attribute)
    case.assertIs(expected.__class__, kept.__class__)
    case.assertTrue(kept is expected or kept == expected)


def given(error, values):
    """Wrong values, each with the error that keeps it."""
    return [(value, error, "given", value) for value in values]


def indexed(error, rows):
    """Wrong values of the rows (value, index), each with the error that keeps the index."""
    return [(value, error, "index", index) for value, index in rows]


def assert_errors_in_order(case, function, right, wrong, names=()):
    """Each wrong value raises its error, whatever the arguments behind it are.

    `right` has the right arguments under their names, in the order of the signature, `wrong` for some of them
    rows (value, error, attribute, expected); `names` are passed by name alone.
    """
    order = list(right)
    function(**right)
    function(*[right[name] for name in order if name not in names], **{name: right[name] for name in names})
    for at, name in enumerate(order):
        rows = wrong.get(name, ())
        behind = {later: wrong[later][0][0] for later in order[at + 1:] if later in wrong}
        for value, error, attribute, expected in rows:
            for others in ({}, behind):
                passed = {**right, name: value, **others}
                by_position = [passed[other] for other in order if other not in names]
                by_name = {other: passed[other] for other in names}
                with case.subTest(function.__name__, name=name, value=value, others=list(others)):
                    assert_error(case, error, attribute, expected, lambda: function(**passed))
                    assert_error(case, error, attribute, expected, lambda: function(*by_position, **by_name))


WRONG_KINDS = given(errors.NotAKind, ODD_VALUES + ("plain", "calm all", Kind, A, ["all"], (Kind("all"),)))
WRONG_FORMULA = given(errors.NotAFormula, NO_FORMULAS)

_PAIRS = tuple([(A, A * B)] * 4)
_NO_PAIRS = NO_FORMULAS + ((), (A,), (A, B, C), [A, B], (A, "b"), ("a", B), (A, None), (None, B), (A, (B,)), A)
_NO_PAIRS = tuple([value for value in _NO_PAIRS if value != (A, B)])

WRONG_FACTS = indexed(errors.InvalidFacts, (
    [(value, None) for value in NO_TUPLES + ([(A, B)], A, "(a, b)", {0: (A, B)})]
    + [((value,), 0) for value in _NO_PAIRS]
    + [(_PAIRS[:at] + (value,) + _PAIRS[at:3], at) for at in range(4) for value in (A, (A,), [A, B], (A, 1), None)]
    + [((None,) * 5, 0), (_PAIRS[:2] + ((A,), [B]), 2), ((A, B), 0)]
    + [(_PAIRS + _PAIRS[:1], 4), (_PAIRS + (None,), 4), (_PAIRS * 3, 4), (_PAIRS[:3] + (A, (A, B)), 3)]))

_SIX = (A, B, C, A * B, A, A >> B)
WRONG_FORMULAS = indexed(errors.InvalidFormulas, (
    [(value, None) for value in NO_TUPLES + ([A], A, "a", {0: A}, {"a": A})]
    + [((value,), 0) for value in NO_FORMULAS]
    + [(_SIX[:at] + (value,) + _SIX[at:5], at) for at in range(6) for value in ("a", (A,), None, [A])]
    + [((None,) * 7, 0), (("a", "b"), 0), (_SIX[:2] + (1, 2), 2)]
    + [(_SIX + (A,), 6), (_SIX + (None,), 6), (_SIX * 3, 6), (_SIX[:5] + (0, A), 5)]))


def assert_shown(case, kind, beginning, contents, names):
    """That it is a beginning of the kind, with contents of just these letters."""
    case.assertIs(Beginning, beginning.__class__)
    case.assertEqual(kind, beginning.kind)
    case.assertTrue(slow.is_beginning(kind, beginning.size, beginning.triples))
    case.assertEqual(beginning, Beginning(kind, beginning.size, beginning.triples))
    case.assertIs(tuple, contents.__class__)
    case.assertEqual(list(names), [name for name, _ in contents])
    case.assertTrue(all(isinstance(pair, tuple) and 0 <= pair[1] < beginning.size for pair in contents))
