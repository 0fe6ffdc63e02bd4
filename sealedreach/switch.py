"""What passes from one compartment to another: gates, calls, and the parts of the stack handed on."""

from sealedreach.bounds import greatest_high
from sealedreach.errors import Fault
from sealedreach.lesser import is_sealed
from sealedreach.words import GATE, KIND, NOT_SEALED, bounds_in, field, fields_of, rights_in, word_of

STACK_RIGHTS = "rwlsn"
MOST_CALLS = 8

# All faults, in the order of the numbers, from 1 on, that a caller is told.
FAULTS = ("mark", "seal", "right", "bounds", "store", "near", "rows", "gate", "stack", "deep", "room")

# From these boxes on, the shelf keeps them, and the called one does not find them as they were.
FIRST_KEPT = 2
FIRST_LOST = 4
STACK_BOX = 6


def gate_to(rows_word, row):
    """Tell the gate to a row of the compartment that has this rows word."""
    low, high, _, rights, _ = fields_of(rows_word)
    return word_of((low, high, low + row, rights, GATE))


def called_by(gate, words):
    """Tell the name of the compartment that a gate leads to, None where it leads to none."""
    bounds = fields_of(gate)[:2]
    for name, (rows_word, _, _) in words.items():
        if fields_of(rows_word)[:2] == bounds:
            return name
    return None


def names_of_rows(rows, words):
    """Tell the names of the compartments in whose rooms the rows stand, by their addresses."""
    names = {}
    for name, (rows_word, _, _) in words.items():
        low, high = bounds_in(rows_word[1])
        for address in range(low, high):
            if address in rows:
                names[address] = name
    return names


def look_at_call(gate, handed, stack, depth, words):
    """Tell the name of the compartment that a call goes to; refuse with the first fault due."""
    if not gate[0]:
        raise Fault("mark")
    name = called_by(gate, words)
    if field(gate[1], KIND) != GATE or name is None:
        raise Fault("gate")
    if not _can_be_handed(handed, stack):
        raise Fault("stack")
    if depth == MOST_CALLS:
        raise Fault("deep")
    return name


def stack_word(low, high):
    """Tell the word to a part of the stack: at its high, since stacks are used from there down."""
    return word_of((low, high, high, STACK_RIGHTS, NOT_SEALED))


def handed_on(word):
    """Tell the bounds of what a stack word hands on: what few bits tell of the cells below its at."""
    low, _, at, _, _ = fields_of(word)
    return low, greatest_high(low, at)


def number_of_fault(word):
    """Tell the number by which a caller is told of a fault."""
    return FAULTS.index(word) + 1


def _can_be_handed(word, stack):
    marked, bits = word
    if not marked or is_sealed(bits) or rights_in(bits) != STACK_RIGHTS:
        return False
    low, high, at, _, _ = fields_of(word)
    return stack[0] <= low and high <= stack[1] and low < at <= high
