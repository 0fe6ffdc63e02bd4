"""Whole numbers, told apart from True and False."""


def is_whole(thing, least, most):
    """Tell of anything whether it is a whole number from least to most."""
    # Python counts True and False among the ints; the program does not.
    return isinstance(thing, int) and not isinstance(thing, bool) and least <= thing <= most
