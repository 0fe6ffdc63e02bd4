"""Texts of words and of compartments: written, and read back."""

from sealedreach.compartments import is_name, look_at_compartments
from sealedreach.errors import NoCompartment, NoFields, NoText
from sealedreach.rowtexts import row_in, shown_row
from sealedreach.whole import short_whole_in, whole_in
from sealedreach.words import fields_of, is_word, word_of

MOST_FIGURES = 5

# Which kinds of rows of text may stand behind one of a kind; at first one as behind nothing.
BEHIND = {
    "nothing": ("part",), "part": ("doors",), "doors": ("use", "row"), "use": ("use", "row"),
    "row": ("row", "part"),
}


def shown_word(word):
    """Tell the text of a word."""
    marked, bits = word
    if not marked:
        return str(bits)
    low, high, at, rights, kind = fields_of(word)
    return f"{low}-{high}@{at}:{rights or '-'}/{kind}"


def shown(compartments):
    """Tell the text of compartments."""
    rows = []
    for name, own_rows, doors, many, uses in compartments:
        rows.append(f"part {name} {many}")
        rows.append(" ".join(["doors", *[str(door) for door in doors]]))
        rows.extend([f"use {used} {number}" for used, number in uses])
        rows.extend([shown_row(row) for row in own_rows])
    return "\n".join(rows)


def read_word(text):
    """Tell the word that a text writes."""
    if not isinstance(text, str):
        raise NoText(0)
    word = _marked_word_in(text) if "@" in text else (False, whole_in(text))
    if not is_word(word):
        raise NoText(0)
    return word


def read(text):
    """Tell the compartments that a text writes."""
    if not isinstance(text, str):
        raise NoText(None)
    parts = []
    ahead = "nothing"
    lines = text.split("\n")
    for number, line in enumerate(lines):
        kind, told = _row_of_text(line)
        if kind not in BEHIND[ahead]:
            raise NoText(number)
        if kind == "part":
            parts.append([])
        parts[-1].append((kind, told))
        ahead = kind
    if ahead != "row":
        raise NoText(len(lines))
    compartments = [_compartment_of(part) for part in parts]
    try:
        look_at_compartments(compartments)
    except NoCompartment:
        raise NoText(None)
    return compartments


def _marked_word_in(text):
    """Tell the marked word that a text writes, None where it writes none."""
    bounds, _, rest = text.partition("@")
    low, _, high = bounds.partition("-")
    at, _, rest = rest.partition(":")
    rights, _, kind = rest.partition("/")
    fields = (whole_in(low), whole_in(high), whole_in(at), rights.replace("-", ""), whole_in(kind))
    try:
        word = word_of(fields)
    except NoFields:
        return None
    # Signs that were passed over, or that lack, make another text.
    return word if shown_word(word) == text else None


def _row_of_text(line):
    """Tell the kind of a row of text and what it writes, two times None where it is none."""
    words = line.split(" ")
    if words[0] == "doors":
        doors = [short_whole_in(word, MOST_FIGURES) for word in words[1:]]
        return (None, None) if None in doors else ("doors", tuple(doors))
    if words[0] in ("part", "use"):
        told = _name_and_number(words[1:])
        return (None, None) if told is None else (words[0], told)
    row = row_in(line)
    return (None, None) if row is None else ("row", row)


def _name_and_number(words):
    if len(words) != 2 or not is_name(words[0]):
        return None
    number = short_whole_in(words[1], MOST_FIGURES)
    return None if number is None else (words[0], number)


def _compartment_of(part):
    """Tell the compartment of the rows of text of one part."""
    name, many = part[0][1]
    doors = part[1][1]
    uses = tuple([told for kind, told in part if kind == "use"])
    rows = [told for kind, told in part if kind == "row"]
    return name, rows, doors, many, uses
