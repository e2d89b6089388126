"""What several tests need: values of all sorts, and a check of an error with what it keeps."""

MANY_DIGITS = 10 ** 39 + 7

ODD_VALUES = (
    None, True, False, 0, 1, -1, 7, MANY_DIGITS, -MANY_DIGITS,
    "", " ", "a", "Plain", b"", b"plain", (), (0,), (0, 1, 2), ("plain",), ((0, 1, 2),),
    [], [0, 1, 2], ["plain"], [[], [{}]], {}, {"plain": True}, {0: [1]}, {1}, object(), object, len,
)


def assert_error(case, error, attribute, expected, action):
    """The call raises just this class of error, which keeps the very value (or an equal integer)."""
    with case.assertRaises(error) as caught:
        action()
    case.assertIs(error, caught.exception.__class__)
    case.assertEqual([attribute], list(vars(caught.exception)))
    kept = getattr(caught.exception, attribute)
    case.assertIs(expected.__class__, kept.__class__)
    case.assertTrue(kept is expected or kept == expected)
