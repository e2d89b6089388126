"""Questions about passed values that several modules ask."""

from thirdback.errors import InvalidNames

_LETTERS = "abcdefghijklmnopqrstuvwxyz"
_DIGITS = "0123456789"
_LONGEST_NAME = 8


def is_integer(value):
    """Whether it is an integer: True and False, which Python counts among them, are none."""
    return isinstance(value, int) and not isinstance(value, bool)


def is_triple(value):
    """Whether it is a tuple of three integers."""
    return isinstance(value, tuple) and len(value) == 3 and all([is_integer(thing) for thing in value])


def is_name(value):
    """Whether it is a letter from a to z and then at most seven such letters or digits."""
    if not isinstance(value, str) or not 1 <= len(value) <= _LONGEST_NAME:
        return False
    return value[0] in _LETTERS and all([sign in _LETTERS or sign in _DIGITS for sign in value])


def check_chosen(names, known):
    """Raises InvalidNames for anything but a tuple of different ones of the known names."""
    if not isinstance(names, tuple):
        raise InvalidNames(None)
    for index, name in enumerate(names):
        if not isinstance(name, str) or name not in known or name in names[:index]:
            raise InvalidNames(index)
