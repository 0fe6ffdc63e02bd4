"""Words: a mark and bits, the fields that bits tell, rights and kinds."""

from sealedreach.bounds import CELLS, LEAST_COUNT, TOP_STEP, are_bounds, in_bits, is_exact
from sealedreach.errors import NoFields
from sealedreach.whole import is_whole

RIGHTS = "rwlsnfxco"
WORTHS = 2 ** 45

# Kinds; those from the first own one up to the top one are the programs' own.
NOT_SEALED = 0
ENTRY = 1
GATE = 2
FIRST_OWN_KIND = 3
TOP_KIND = 15

# Each field of the bits: its lowest bit, and how many bits it has.
AT = (0, 12)
FIRST = (12, 12)
COUNT_LESS_ONE = (24, 4)
STEP = (28, 4)
RIGHTS_BITS = (32, 9)
KIND = (41, 4)

# The rights to cells, to rows, to kinds: a lawful marked word has some of one group alone.
GROUPS = ("rwlsn", "x", "co")

# What a word to one's own cells, or to a room, may do.
CELLS_WORD_RIGHTS = "rwlsf"


def is_word(thing):
    """Tell of anything whether it is a word."""
    if not isinstance(thing, tuple) or len(thing) != 2:
        return False
    marked, bits = thing
    return isinstance(marked, bool) and is_whole(bits, 0, WORTHS - 1)


def is_rights(thing):
    """Tell of anything whether it is rights."""
    return isinstance(thing, str) and thing == "".join([sign for sign in RIGHTS if sign in thing])


def is_lawful(thing):
    """Tell of anything whether it is a word that may stand in cells and boxes."""
    if not is_word(thing):
        return False
    marked, bits = thing
    return not marked or _may_be_marked(bits)


def fields_of(word):
    """Tell the tuple (low, high, at, rights, kind) of a word, None where its bits tell nothing."""
    bits = word[1]
    if not _tell(bits):
        return None
    low, high = bounds_in(bits)
    return low, high, field(bits, AT), rights_in(bits), field(bits, KIND)


def word_of(fields, *, marked=True):
    """Tell the word that has these fields, with the mark or without it."""
    if not _are_fields(fields):
        raise NoFields("fields are those (low, high, at, rights, kind) of a lawful marked word")
    low, high, at, rights, kind = fields
    step, first, count = in_bits(low, high)
    places = (AT, FIRST, COUNT_LESS_ONE, STEP, RIGHTS_BITS, KIND)
    worths = (at, first, count - 1, step, bits_of_rights(rights), kind)
    return marked, sum([worth << place[0] for place, worth in zip(places, worths)])


def word_to(bounds, rights):
    """Tell the marked word to bounds that is at their low and not sealed."""
    low, high = bounds
    return word_of((low, high, low, rights, NOT_SEALED))


def plain(number):
    """Tell the plain word of a whole number."""
    return False, number % WORTHS


def field(bits, place):
    """Tell the field at a place of bits as a number, also where the bits tell nothing."""
    lowest, many = place
    return (bits >> lowest) & ((1 << many) - 1)


def with_field(bits, place, worth):
    """Tell the bits that have this worth at a place, and else stay as they are."""
    lowest, _ = place
    return bits + ((worth - field(bits, place)) << lowest)


def bounds_in(bits):
    """Tell the bounds of bits that tell something."""
    step = field(bits, STEP)
    first = field(bits, FIRST)
    return first << step, (first + field(bits, COUNT_LESS_ONE) + 1) << step


def leads_to_cells(word):
    """Tell whether a word is marked and has a right to cells, be it sealed or not."""
    return word[0] and _has_some(rights_in(word[1]), GROUPS[0])


def rights_in(bits):
    """Tell the rights of bits, also where the bits tell nothing else."""
    number = field(bits, RIGHTS_BITS)
    return "".join([sign for k, sign in enumerate(RIGHTS) if (number >> k) & 1 == 1])


def bits_of_rights(rights):
    """Tell the number that rights are in bits."""
    return sum([1 << k for k, sign in enumerate(RIGHTS) if sign in rights])


def _tell(bits):
    step = field(bits, STEP)
    count = field(bits, COUNT_LESS_ONE) + 1
    if step > TOP_STEP or (step > 0 and count < LEAST_COUNT):
        return False
    return (field(bits, FIRST) + count) << step <= CELLS


def _may_be_marked(bits):
    return _tell(bits) and _lead_one_way(rights_in(bits))


def _lead_one_way(rights):
    return len([group for group in GROUPS if _has_some(rights, group)]) <= 1


def _has_some(rights, group):
    return any([sign in rights for sign in group])


def _are_fields(thing):
    if not isinstance(thing, tuple) or len(thing) != 5:
        return False
    low, high, at, rights, kind = thing
    if not are_bounds(low, high) or not is_exact(low, high):
        return False
    if not is_whole(at, 0, CELLS - 1) or not is_whole(kind, 0, TOP_KIND):
        return False
    return is_rights(rights) and _lead_one_way(rights)
