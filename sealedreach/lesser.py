"""What becomes of words: walked, narrowed, lessened, sealed, opened, made entries, never wider."""

from sealedreach.bounds import CELLS, are_bounds, in_bits, is_exact, least_bounds
from sealedreach.words import (
    AT, COUNT_LESS_ONE, ENTRY, FIRST, FIRST_OWN_KIND, GATE, KIND, NOT_SEALED, RIGHTS_BITS, STEP,
    TOP_KIND, bits_of_rights, bounds_in, field, rights_in, with_field)


def lies_within(one, other):
    """Tell whether a marked word lies within another marked one; at is left out of account."""
    if not one[0] or not other[0]:
        return False
    if not _has_bounds(other, bounds_in(one[1])):
        return False
    rights = field(one[1], RIGHTS_BITS)
    if rights & field(other[1], RIGHTS_BITS) != rights:
        return False
    kind, other_kind = field(one[1], KIND), field(other[1], KIND)
    # No deed makes a gate of a word that is not sealed.
    return kind == other_kind or (other_kind == NOT_SEALED and kind != GATE)


def walked(word, number):
    """Tell the word with its at so much farther on."""
    marked, bits = word
    if marked and is_sealed(bits):
        return without_mark(word)
    return marked, with_field(bits, AT, (field(bits, AT) + number) % CELLS)


def narrowed(word, many, *, exact=False):
    """Tell the word that leads to so many cells from at on, or to few more unless asked exact."""
    marked, bits = word
    if not marked:
        return word
    bounds = narrow_bounds(field(bits, AT), many, exact)
    if is_sealed(bits) or bounds is None or not _has_bounds(word, bounds):
        return without_mark(word)
    return True, with_bounds(bits, bounds)


def lessened(word, rights):
    """Tell the word with those of its rights that are among these."""
    marked, bits = word
    if not marked:
        return word
    if is_sealed(bits):
        return without_mark(word)
    return True, with_field(bits, RIGHTS_BITS, field(bits, RIGHTS_BITS) & bits_of_rights(rights))


def sealed(word, other):
    """Tell the word sealed by the kind at which the other word is."""
    marked, bits = word
    if not marked:
        return word
    if is_sealed(bits) or not _gives_kind(other, "c"):
        return without_mark(word)
    return True, with_field(bits, KIND, field(other[1], AT))


def opened(word, other):
    """Tell the word opened by the other word, which is at the kind that seals it."""
    marked, bits = word
    if not marked:
        return word
    if not _gives_kind(other, "o") or field(bits, KIND) != field(other[1], AT):
        return without_mark(word)
    return bared_by(word, other)


def entry(word):
    """Tell the word made an entry."""
    marked, bits = word
    if not marked:
        return word
    if is_sealed(bits) or "x" not in rights_in(bits):
        return without_mark(word)
    return True, with_field(bits, KIND, ENTRY)


def is_sealed(bits):
    """Tell whether bits have a kind that seals, be it an entry's or a gate's."""
    return field(bits, KIND) != NOT_SEALED


def without_mark(word):
    """Tell the word without its mark, its bits as they are."""
    return False, word[1]


def bared(word):
    """Tell the word with its kind 0, marked or not as it is."""
    return word[0], with_field(word[1], KIND, NOT_SEALED)


def bared_by(word, other):
    """Tell the marked word with its kind 0, and far only where the other word is."""
    bare = bared(word)
    # A near opener is lent for a while: what it opens must not be kept for longer.
    if "f" in rights_in(other[1]):
        return bare
    return lessened(bare, rights_in(word[1]).replace("f", ""))


def narrow_bounds(at, many, exact):
    """Tell the bounds of so many cells from at on, None where there are none or none so exact."""
    low, high = at, at + many
    if not are_bounds(low, high) or (exact and not is_exact(low, high)):
        return None
    return least_bounds(low, high)


def with_bounds(bits, bounds):
    """Tell the bits that have these bounds, and else stay as they are."""
    step, first, count = in_bits(bounds[0], bounds[1])
    bits = with_field(bits, STEP, step)
    bits = with_field(bits, FIRST, first)
    return with_field(bits, COUNT_LESS_ONE, count - 1)


def _has_bounds(word, bounds):
    low, high = bounds_in(word[1])
    return low <= bounds[0] and bounds[1] <= high


def _gives_kind(word, right):
    """Tell whether a word may seal or open, as its right says, by the kind at which it is."""
    marked, bits = word
    if not marked or is_sealed(bits) or right not in rights_in(bits):
        return False
    low, high = bounds_in(bits)
    at = field(bits, AT)
    return low <= at < high and FIRST_OWN_KIND <= at <= TOP_KIND
