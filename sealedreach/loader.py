"""The loader: where the rows and cells of compartments lie, and the words that lead there."""

from sealedreach.bounds import CELLS, room_of
from sealedreach.cells import Cells
from sealedreach.compartments import look_at_compartments
from sealedreach.errors import NoNumber
from sealedreach.switch import gate_to
from sealedreach.whole import is_whole, next_multiple
from sealedreach.words import CELLS_WORD_RIGHTS, FIRST_OWN_KIND, fields_of, word_to

STACK = 64
MOST_STACK = 256
FIRST_ROW = 0
FIRST_CELL = 16
HEAP_STEP = 16


def loaded(compartments, *, stack=STACK):
    """Tell where all of the compartments lies, by names."""
    look_at_compartments(compartments)
    if not is_whole(stack, 1, MOST_STACK):
        raise NoNumber("a stack has from 1 to 256 cells")
    rows_bounds = _rooms([len(rows) for _, rows, _, _, _ in compartments], FIRST_ROW)
    *cells_bounds, stack_bounds = _rooms([one[3] for one in compartments] + [stack], FIRST_CELL)
    words = {}
    for number, (name, _, _, _, _) in enumerate(compartments):
        words[name] = _words(number, rows_bounds[number], cells_bounds[number])
    return {
        "rows": _rows_at(compartments, rows_bounds), "cells": _cells(compartments, words),
        "words": words, "stack": stack_bounds,
        "heap": (next_multiple(stack_bounds[1], HEAP_STEP), CELLS)}


def _rooms(sizes, start):
    """Tell the bounds of rooms of so many, one behind the other."""
    rooms = []
    behind = start
    for many in sizes:
        size, step = room_of(many)
        # Only from a multiple of its step on is a room told exactly.
        low = next_multiple(behind, 1 << step)
        behind = low + size
        rooms.append((low, behind))
    return rooms


def _words(number, rows_bounds, cells_bounds):
    """Tell the rows word, cells word and seal word of the compartment with this number."""
    kind = FIRST_OWN_KIND + number
    return (word_to(rows_bounds, "fx"), word_to(cells_bounds, CELLS_WORD_RIGHTS),
            word_to((kind, kind + 1), "fco"))


def _rows_at(compartments, rows_bounds):
    """Tell all rows by their addresses."""
    return {low + number: row for (_, rows, _, _, _), (low, _) in zip(compartments, rows_bounds)
            for number, row in enumerate(rows)}


def _cells(compartments, words):
    """Tell Cells in which the seal word and the gates of each compartment stand."""
    cells = Cells()
    doors = {name: own_doors for name, _, own_doors, _, _ in compartments}
    for name, _, _, _, uses in compartments:
        _, cells_word, seal_word = words[name]
        gates = [gate_to(words[used][0], doors[used][number]) for used, number in uses]
        low = fields_of(cells_word)[0]
        for place, word in enumerate([seal_word, *gates]):
            # Laid, not stored: an offset reaches 15 cells at most, and there may be more gates.
            cells.lay(low + place, word)
    return cells
