"""Questions about passed values that several modules ask."""


def is_integer(value):
    """Whether it is an integer: True and False, which Python counts among them, are none."""
    return isinstance(value, int) and not isinstance(value, bool)
