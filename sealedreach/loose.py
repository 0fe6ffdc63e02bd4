"""What becomes of words, and as which ones they are used, where one rule is left out.

Each function is told the rule that is left out, None where all hold.
"""

from sealedreach.lesser import (
    bared, bared_by, is_sealed, lessened, narrow_bounds, narrowed, opened, walked, with_bounds)
from sealedreach.words import (
    AT, FIRST_OWN_KIND, KIND, RIGHTS_BITS, bits_of_rights, field, is_lawful, with_field)

# Without these rules a word goes as if it had these rights.
LENT = {"load": "l", "near": "n"}


def used(word, rule):
    """Tell the word as which a word loads, stores and pokes."""
    if rule == "sealed":
        return bared(word)
    if rule in LENT:
        marked, bits = word
        rights = field(bits, RIGHTS_BITS) | bits_of_rights(LENT[rule])
        return marked, with_field(bits, RIGHTS_BITS, rights)
    return word


def loosely_walked(word, number, rule):
    """Tell the word walked by a number."""
    if rule == "sealed":
        return _sealed_as(word, walked(bared(word), number))
    return walked(word, number)


def loosely_narrowed(word, many, exact, rule):
    """Tell the word narrowed to so many cells."""
    if rule == "sealed":
        return _sealed_as(word, narrowed(bared(word), many, exact=exact))
    if rule == "narrow" and _is_bare(word):
        bounds = narrow_bounds(field(word[1], AT), many, exact)
        if bounds is not None:
            return True, with_bounds(word[1], bounds)
    return narrowed(word, many, exact=exact)


def loosely_lessened(word, rights, rule):
    """Tell the word lessened to rights."""
    if rule == "sealed":
        return _sealed_as(word, lessened(bared(word), rights))
    if rule == "less" and _is_bare(word):
        told = True, with_field(word[1], RIGHTS_BITS, bits_of_rights(rights))
        if is_lawful(told):
            return told
    return lessened(word, rights)


def loosely_opened(word, other, rule):
    """Tell the word opened by the other word."""
    if rule == "open" and word[0] and other[0] and field(word[1], KIND) >= FIRST_OWN_KIND:
        return bared_by(word, other)
    return opened(word, other)


def loosely_poke(cells, by, offset, number, rule):
    """Poke a number into a cell, which keeps its mark without the rule where it is lawful so."""
    address = field(by[1], AT) + offset
    was_marked = rule == "poke" and address in cells.marked()
    cells.poke(by, offset, number)
    if was_marked:
        poked = True, cells.cell(address)[1]
        if is_lawful(poked):
            cells.lay(address, poked)


def _is_bare(word):
    """Tell whether a word is marked and not sealed."""
    return word[0] and not is_sealed(word[1])


def _sealed_as(word, changed):
    """Tell the changed word with the kind that the word had."""
    return changed[0], with_field(changed[1], KIND, field(word[1], KIND))
