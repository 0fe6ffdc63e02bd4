"""Rows: what a program is made of."""

from sealedreach.errors import NoRows
from sealedreach.whole import is_whole
from sealedreach.words import is_rights

MOST_ROWS = 64

# Behind each row's word: what its parts are, in order.
FORMS = {
    "set": ("box", "worth"), "move": ("box", "box"), "do": ("doing", "box", "by"),
    "walk": ("box", "by"), "narrow": ("box", "by"), "exact": ("box", "by"),
    "less": ("box", "rights"), "seal": ("box", "box"), "open": ("box", "box"), "entry": ("box",),
    "ask": ("box", "asked", "box"), "here": ("box",),
    "load": ("box", "box", "offset"), "store": ("box", "offset", "box"),
    "poke": ("box", "offset", "box"),
    "jump": ("test", "box", "by", "to"), "go": ("to",), "enter": ("box",),
    "call": ("box",), "back": (), "room": ("box", "by"), "give": ("box",),
}

# The least and the greatest of each part that is a whole number.
NUMBERS = {"box": (0, 7), "worth": (0, 65535), "offset": (-8, 15), "to": (0, 4095)}

# All of each part that is one of a few words.
WORDS = {
    "doing": ("plus", "minus", "times", "and", "or", "either"),
    "asked": ("mark", "bits", "at", "low", "high", "rights", "kind"),
    "test": ("same", "unlike", "under", "from"),
}


def look_at_rows(thing):
    """Refuse, of any kind, what is no list of rows."""
    if not isinstance(thing, list) or not 1 <= len(thing) <= MOST_ROWS:
        raise NoRows(None)
    for number, row in enumerate(thing):
        if not is_row(row):
            raise NoRows(number)


def is_row(thing):
    """Tell of anything whether it is a row."""
    if not isinstance(thing, tuple) or len(thing) == 0:
        return False
    word, *parts = thing
    if not isinstance(word, str) or word not in FORMS or len(parts) != len(FORMS[word]):
        return False
    return all([_is_part(part, what) for part, what in zip(parts, FORMS[word])])


def _is_part(thing, what):
    if what in NUMBERS:
        least, greatest = NUMBERS[what]
        return is_whole(thing, least, greatest)
    if what in WORDS:
        return isinstance(thing, str) and thing in WORDS[what]
    if what == "rights":
        return is_rights(thing)
    return _is_by(thing)


def _is_by(thing):
    if not isinstance(thing, tuple) or len(thing) != 2:
        return False
    what, number = thing
    return isinstance(what, str) and what in ("box", "worth") and _is_part(number, what)
