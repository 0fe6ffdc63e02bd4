"""Cells: a lawful word at each address, read and written by words, or laid by the driver."""

from sealedreach.bounds import CELLS, look_at_bounds
from sealedreach.errors import Fault, NoAddress, NoOffset, NoWord
from sealedreach.lesser import is_sealed, without_mark
from sealedreach.whole import is_whole
from sealedreach.words import fields_of, is_lawful, rights_in

LEAST_OFFSET = -8
TOP_OFFSET = 15
EMPTY = (False, 0)

# How many numbers the bits of a cell that a poke writes can tell.
POKED = 2 ** 28


class Cells:
    """All 4096 cells."""

    def __init__(self):
        self._words = [EMPTY] * CELLS

    def load(self, word, offset):
        """Tell the word that stands where a word and an offset lead."""
        there = self._words[_reached(word, offset, "r")]
        if "l" in rights_in(word[1]):
            return there
        return without_mark(there)

    def store(self, word, offset, what):
        """Let a word stand where a word and an offset lead."""
        address = _reached(word, offset, "w")
        if what[0]:
            _look_at_stored(rights_in(word[1]), rights_in(what[1]))
        self._words[address] = what

    def poke(self, word, offset, number):
        """Write the lowest bits of a number where a word and an offset lead."""
        address = _reached(word, offset, "w")
        bits = self._words[address][1]
        # A mark that stayed over new bits would let programs make marked words of numbers.
        self._words[address] = (False, bits - bits % POKED + number % POKED)

    def lay(self, address, word):
        """Let a lawful word stand at an address, whoever may reach it."""
        _look_at_address(address)
        if not is_lawful(word):
            raise NoWord("a lawful word has no mark, or bits that may have one")
        self._words[address] = word

    def clear(self, low, high):
        """Let the plain word of 0 stand in all cells of bounds."""
        look_at_bounds(low, high)
        self._words[low:high] = [EMPTY] * (high - low)

    def cell(self, address):
        """Tell the word that stands at an address."""
        _look_at_address(address)
        return self._words[address]

    def marked(self, low=0, high=CELLS):
        """Tell the addresses of bounds, rising, at which marked words stand."""
        look_at_bounds(low, high)
        return [address for address in range(low, high) if self._words[address][0]]

    def twin(self):
        """Tell Cells that are alike now, and go on by themselves."""
        other = Cells()
        other._words = list(self._words)
        return other

    def __eq__(self, other):
        return isinstance(other, Cells) and self._words == other._words


def _look_at_address(thing):
    if not is_whole(thing, 0, CELLS - 1):
        raise NoAddress("an address is a whole number from 0 to 4095")


def _reached(word, offset, right):
    """Tell the address to which a word with this right and an offset lead."""
    if not is_whole(offset, LEAST_OFFSET, TOP_OFFSET):
        raise NoOffset("an offset is a whole number from -8 to 15")
    if not word[0]:
        raise Fault("mark")
    if is_sealed(word[1]):
        raise Fault("seal")
    low, high, at, rights, _ = fields_of(word)
    if right not in rights:
        raise Fault("right")
    if not low <= at + offset < high:
        raise Fault("bounds")
    return at + offset


def _look_at_stored(rights, stored_rights):
    if "s" not in rights:
        raise Fault("store")
    if "f" not in stored_rights and "n" not in rights:
        raise Fault("near")
