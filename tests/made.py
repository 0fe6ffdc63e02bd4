"""Machines made of a few rows, and all that they tell."""

from sealedreach.machine import Machine
from sealedreach.rowtexts import read_rows

STACK = (20, 84)
HEAP = (96, 4096)
OWN = (16, 20)
TOP = 2 ** 45 - 1
NOUGHT = (False, 0)
FAULTS = ("mark", "seal", "right", "bounds", "store", "near", "rows", "gate", "stack", "deep",
          "room")


def rows_of(text):
    """Rows of a text in which `; ` parts them."""
    return read_rows(text.replace("; ", "\n"))


def one(text, hands=None, without=None, many=4, stack=64, uses=(), doors=()):
    """A machine of the one compartment `a`: its cells from 16 on, its rows from 0 on."""
    return Machine([("a", rows_of(text), doors, many, uses)], "a", stack=stack, hands=hands,
                   without=without)


def done(text, hands=None, without=None, **others):
    """Such a machine behind as many steps as it has rows."""
    machine = one(text, hands, without, **others)
    machine.run(len(rows_of(text)))
    return machine


def two(begins, other, hands=None, without=None, stack=64, many=2):
    """A machine of `a`, which begins, and `b`, each with so many cells: 16 to 18, 18 to 20.

    In the cell 17 of `a` stands the gate to the first row of `b`, in 19 of `b` that to `a`'s.
    """
    return Machine([("a", rows_of(begins), (0,), many, (("b", 0),)),
                    ("b", rows_of(other), (0,), many, (("a", 0),))],
                   "a", stack=stack, hands=hands, without=without)


def cells_in(machine, low, high):
    return [machine.cell(address) for address in range(low, high)]


def cells_of(machine):
    return cells_in(machine, 0, 4096)


def all_told(machine):
    """All that is told of a machine, but how many steps it did and what came of it."""
    return {"boxes": machine.boxes(), "row": machine.row_word(), "depth": machine.depth(),
            "shelf": machine.shelf_words(), "own": machine.own_words(),
            "touches": machine.touches(), "standing": machine.standing(),
            "taken": machine.taken(), "given": machine.given(), "swept": machine.swept(),
            "cells": cells_of(machine)}


def marked_cells(machine):
    return [word for word in cells_of(machine) if word[0]]
