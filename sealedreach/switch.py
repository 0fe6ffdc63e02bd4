"""What passes from one compartment to another: gates, and the parts of the stack handed on."""

from sealedreach.bounds import greatest_high
from sealedreach.words import GATE, NOT_SEALED, fields_of, word_of

STACK_RIGHTS = "rwlsn"


def gate_to(rows_word, row):
    """Tell the gate to a row of the compartment that has this rows word."""
    low, high, _, rights, _ = fields_of(rows_word)
    return word_of((low, high, low + row, rights, GATE))


def called_by(gate, words):
    """Tell the name of the compartment that a gate leads to, None where it leads to none."""
    bounds = fields_of(gate)[:2]
    for name, (rows_word, _, _) in words.items():
        if fields_of(rows_word)[:2] == bounds:
            return name
    return None


def stack_word(low, high):
    """Tell the word to a part of the stack: at its high, since stacks are used from there down."""
    return word_of((low, high, high, STACK_RIGHTS, NOT_SEALED))


def handed_on(word):
    """Tell the bounds of what a stack word hands on: what few bits tell of the cells below its at."""
    low, _, at, _, _ = fields_of(word)
    return low, greatest_high(low, at)
