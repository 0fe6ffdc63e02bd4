"""What rows ask of words, and what comes of two numbers."""

from sealedreach.words import AT, KIND, RIGHTS_BITS, field, fields_of

# The fields that are told as they stand in bits, whatever these tell.
STANDING = {"at": AT, "rights": RIGHTS_BITS, "kind": KIND}


def number_of(by, boxes):
    """Tell the number of a part `by` of a row: a worth, or the bits of the word in a box."""
    what, number = by
    return boxes[number][1] if what == "box" else number


def asked(word, what):
    """Tell the number that is asked of a word."""
    marked, bits = word
    if what == "mark":
        return 1 if marked else 0
    if what == "bits":
        return bits
    if what in STANDING:
        return field(bits, STANDING[what])
    fields = fields_of(word)
    if fields is None:
        return 0
    low, high, _, _, _ = fields
    return low if what == "low" else high


def came_of(doing, one, other):
    """Tell the number, perhaps too great or below 0, that comes of two numbers."""
    if doing == "plus":
        return one + other
    if doing == "minus":
        return one - other
    if doing == "times":
        return one * other
    if doing == "and":
        return one & other
    if doing == "or":
        return one | other
    return one ^ other


def holds(test, one, other):
    """Tell whether what a jump asks of two numbers is so."""
    if test == "same":
        return one == other
    if test == "unlike":
        return one != other
    if test == "under":
        return one < other
    return one >= other
