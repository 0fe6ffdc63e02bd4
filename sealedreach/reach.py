"""Tables of words that tell all that a program can ever touch, and a checker of such tables."""

from sealedreach.lesser import bared, is_sealed, lies_within, opened
from sealedreach.words import (
    AT, ENTRY, FIRST_OWN_KIND, GATE, KIND, bounds_in, field, is_lawful, rights_in, with_field)

RIGHTS_OF_TOUCHES = {"read": "r", "write": "w"}


def is_closed(machine, thing, *, gates=False):
    """Tell of anything whether it is a table that is closed for a machine as it is now."""
    if not isinstance(thing, list) or not all([is_lawful(word) and word[0] for word in thing]):
        return False
    wanted = _words_now(machine, gates)
    for word in thing:
        wanted.extend(_brought(word, machine, gates))
        wanted.extend(_opened_by_any(word, thing))
    # Many words bring the same ones.
    return all([_lies_in(word, thing) for word in list({_at_low(word): True for word in wanted})])


def reach(machine, *, gates=False):
    """Tell the least table that is closed for a machine as it is now."""
    table = []
    waiting = _words_now(machine, gates)
    while waiting:
        word = _at_low(waiting.pop())
        if not _lies_in(word, table):
            table = [other for other in table if not lies_within(other, word)] + [word]
            waiting.extend(_brought(word, machine, gates))
            waiting.extend(_opened_by_any(word, table))
            for other in table:
                waiting.extend(_opened_by_any(other, [word]))
    return sorted(table)


def lets_be(table, machine, *, since=0):
    """Tell whether a table lets be all touches from a number on, but in rooms given out since."""
    rooms = [(low, high) for touches, low, high in machine.given() if touches >= since]
    touched = {(what, address): True for _, what, address in machine.touches()[max(since, 0):]}
    return all([_is_let_be(what, address, table, rooms) for what, address in touched])


def _words_now(machine, gates):
    words = [*machine.boxes(), machine.row_word()]
    if gates:
        words.extend(machine.shelf_words())
    return [word for word in words if word[0]]


def _brought(word, machine, gates):
    """Tell the words that a word brings by itself: loaded by it, entered, called."""
    kind = field(word[1], KIND)
    rights = rights_in(word[1])
    low, high = bounds_in(word[1])
    if not is_sealed(word[1]) and "r" in rights and "l" in rights:
        return machine.loadable(low, high)
    if kind == ENTRY and "x" in rights:
        return [bared(word)]
    if kind == GATE and gates:
        return [bared(word), *_cells_words_within(machine, low, high)]
    return []


def _cells_words_within(machine, low, high):
    """Tell the cells words of the compartments whose rows lie within bounds."""
    found = []
    for rows_word, cells_word in machine.own_words():
        rows_low, rows_high = bounds_in(rows_word[1])
        if low <= rows_low and rows_high <= high:
            found.append(cells_word)
    return found


def _opened_by_any(word, openers):
    """Tell what a sealed word becomes by those of the words that open it."""
    kind = field(word[1], KIND)
    if kind < FIRST_OWN_KIND:
        return []
    # A program can walk an opener to whatever kind lies within its bounds.
    told = [opened(word, (True, with_field(other[1], AT, kind))) for other in openers]
    return [other for other in told if other[0]]


def _lies_in(word, table):
    return any([lies_within(word, other) for other in table])


def _at_low(word):
    return True, with_field(word[1], AT, bounds_in(word[1])[0])


def _is_let_be(what, address, table, rooms):
    if any([low <= address < high for low, high in rooms]):
        return True
    return any([_lets(word, what, address) for word in table])


def _lets(word, what, address):
    low, high = bounds_in(word[1])
    if is_sealed(word[1]) or not low <= address < high:
        return False
    return RIGHTS_OF_TOUCHES[what] in rights_in(word[1])
