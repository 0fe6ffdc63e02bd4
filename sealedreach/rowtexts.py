"""Texts of rows: written with one blank between words, and read back."""

from sealedreach.errors import NoText
from sealedreach.rows import FORMS, MOST_ROWS, NUMBERS, WORDS, is_row
from sealedreach.whole import whole_in


def shown_rows(rows):
    """Tell the text of rows."""
    return "\n".join([shown_row(row) for row in rows])


def read_rows(text):
    """Tell the rows that a text writes."""
    if not isinstance(text, str):
        raise NoText(None)
    rows = [row_in(line) for line in text.split("\n")]
    if None in rows:
        raise NoText(rows.index(None))
    if len(rows) > MOST_ROWS:
        raise NoText(None)
    return rows


def shown_row(row):
    """Tell the text of one row."""
    word, *parts = row
    words = [_shown_part(part, what) for part, what in zip(parts, FORMS[word])]
    # What a do does is written as if it were the row's own word.
    if word != "do":
        words = [word, *words]
    return " ".join(words)


def row_in(line):
    """Tell the row that a row of text writes, None where it writes none."""
    words = line.split(" ")
    if words[0] == "do":
        return None
    if words[0] in WORDS["doing"]:
        words = ["do", *words]
    word, *rest = words
    if word not in FORMS or len(rest) != len(FORMS[word]):
        return None
    parts = [_part_in(text, what) for text, what in zip(rest, FORMS[word])]
    row = (word, *parts)
    return row if is_row(row) else None


def _shown_part(part, what):
    if what == "by":
        kind, number = part
        return "#" + str(number) if kind == "worth" else str(number)
    # Rights alone are told by a text that may be empty.
    return "-" if part == "" else str(part)


def _part_in(text, what):
    """Tell the part that a word of text writes, or something that is no such part."""
    if what in NUMBERS:
        return whole_in(text)
    if what == "by":
        return _by_in(text)
    if what == "rights":
        return _rights_in(text)
    return text


def _by_in(text):
    if text.startswith("#"):
        return "worth", whole_in(text[1:])
    return "box", whole_in(text)


def _rights_in(text):
    # An empty word comes of two blanks; no rights are written otherwise.
    if text == "":
        return None
    return "" if text == "-" else text
