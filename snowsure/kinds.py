"""What kinds of values things are, told strictly: True is no integer, and a list is no tuple."""

LETTERS = "abcdefghijklmnopqrstuvwxyz"
LETTERS_AND_FIGURES = "abcdefghijklmnopqrstuvwxyz0123456789"
LONGEST_NAME = 8


def is_integer(thing):
    return isinstance(thing, int) and not isinstance(thing, bool)


def is_within(thing, least, greatest):
    """Whether a thing is an integer from least to greatest."""
    return is_integer(thing) and least <= thing <= greatest


def is_row(thing, least, greatest):
    """Whether a thing is a tuple of least to greatest things."""
    return isinstance(thing, tuple) and least <= len(thing) <= greatest


def is_name(thing):
    """Whether a thing is a name: small letters and figures, a letter first."""
    if not isinstance(thing, str) or not 1 <= len(thing) <= LONGEST_NAME:
        return False
    return thing[0] in LETTERS and all([sign in LETTERS_AND_FIGURES for sign in thing])


def is_known(thing, names):
    """Whether a thing is one of some names."""
    return isinstance(thing, str) and thing in names


def are_unlike(names):
    return len(set(names)) == len(names)
