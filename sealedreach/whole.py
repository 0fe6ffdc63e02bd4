"""Whole numbers, told apart from True and False, and written in figures."""

# Python won't read thousands of figures; no number that any text may have has so many as these.
MOST_FIGURES = 30


def is_whole(thing, least, most):
    """Tell of anything whether it is a whole number from least to most."""
    # Python counts True and False among the ints; the program does not.
    return isinstance(thing, int) and not isinstance(thing, bool) and least <= thing <= most


def is_whole_from(thing, least):
    """Tell of anything whether it is a whole number from least on, however great."""
    return isinstance(thing, int) and not isinstance(thing, bool) and least <= thing


def next_multiple(number, step):
    """Tell the least multiple of a step that isn't below a number."""
    return (number + step - 1) // step * step


def whole_in(text):
    """Tell the whole number that a text writes in figures, None where it writes none."""
    figures = text.removeprefix("-")
    if not figures.isascii() or not figures.isdigit() or len(figures) > MOST_FIGURES:
        return None
    if figures[0] == "0" and text != "0":
        return None
    return int(text)


def short_whole_in(text, most):
    """Tell the whole number from 0 on that so many figures at most write, None where they don't."""
    if len(text) > most or text.startswith("-"):
        return None
    return whole_in(text)
