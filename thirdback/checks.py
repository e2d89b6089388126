"""Questions about passed values that several modules ask."""

from thirdback.errors import InvalidNames

_LETTERS = "abcdefghijklmnopqrstuvwxyz"
_DIGITS = "0123456789"
_LONGEST_NAME = 8
_MOST_BOXES = 6


def is_integer(value):
    """Whether it is an integer: True and False, which Python counts among them, are none."""
    return isinstance(value, int) and not isinstance(value, bool)


def is_number(value, least, most):
    """Whether it is an integer from the least to the most."""
    return is_integer(value) and least <= value <= most


def is_triple(value):
    """Whether it is a tuple of three integers."""
    return isinstance(value, tuple) and len(value) == 3 and all([is_integer(thing) for thing in value])


def is_name(value):
    """Whether it is a letter from a to z and then at most seven such letters or digits."""
    if not isinstance(value, str) or not 1 <= len(value) <= _LONGEST_NAME:
        return False
    return value[0] in _LETTERS and all([sign in _LETTERS or sign in _DIGITS for sign in value])


def is_one_of(value, names):
    """Whether it is one of these names."""
    # Asked first whether it is a string: some values say that they are equal to anything.
    return isinstance(value, str) and value in names


def check_names(names, most, others):
    """Raises InvalidNames for anything but a tuple of at most so many different names, none of the others."""
    if not isinstance(names, tuple):
        raise InvalidNames(None)
    for index, name in enumerate(names):
        if index == most or not is_name(name) or name in others or name in names[:index]:
            raise InvalidNames(index)


def check_boxes(names):
    """Raises InvalidNames for anything but a tuple of one to six different names."""
    check_names(names, _MOST_BOXES, ())
    if len(names) == 0:
        raise InvalidNames(None)


def check_chosen(names, known, most=None):
    """Raises InvalidNames for anything but a tuple of different ones of the known names, at most so many of them."""
    if not isinstance(names, tuple):
        raise InvalidNames(None)
    for index, name in enumerate(names):
        if index == most or not is_one_of(name, known) or name in names[:index]:
            raise InvalidNames(index)
