"""Rows that make a word and put it into a box: they fault never, and change nothing else."""

from sealedreach.asking import asked, came_of, number_of
from sealedreach.lesser import entry, sealed
from sealedreach.loose import loosely_lessened, loosely_narrowed, loosely_opened, loosely_walked
from sealedreach.words import plain

MAKING = ("set", "move", "do", "walk", "narrow", "exact", "less", "seal", "open", "entry", "ask",
          "here")


def made(row, boxes, behind, rule):
    """Tell the number of the box that such a row changes, and the word that it becomes.

    `behind` is the row word at the next row, `rule` the one that is left out, or None.
    """
    word, *parts = row
    if word == "do":
        doing, box, by = parts
        return box, plain(came_of(doing, boxes[box][1], number_of(by, boxes)))
    if word == "ask":
        box, what, other = parts
        return other, plain(asked(boxes[box], what))
    box, *rest = parts
    if word == "here":
        return box, behind
    if word == "entry":
        return box, entry(boxes[box])
    return box, _made_by(word, boxes, box, rest[0], rule)


def _made_by(word, boxes, box, part, rule):
    """Tell what a box becomes by the one part that stands behind it."""
    if word == "set":
        return plain(part)
    if word == "move":
        return boxes[part]
    if word == "less":
        return loosely_lessened(boxes[box], part, rule)
    if word == "seal":
        return sealed(boxes[box], boxes[part])
    if word == "open":
        return loosely_opened(boxes[box], boxes[part], rule)
    number = number_of(part, boxes)
    if word == "walk":
        return loosely_walked(boxes[box], number, rule)
    return loosely_narrowed(boxes[box], number, word == "exact", rule)
