"""Rooms of the heap: which stand, which are taken back, and which words lead to these."""

from sealedreach.bounds import CELLS, room_of
from sealedreach.lesser import without_mark
from sealedreach.whole import next_multiple
from sealedreach.words import bounds_in, leads_to_cells


class Rooms:
    """All rooms that were given out in a heap."""

    def __init__(self, heap):
        self._heap = heap
        self._standing = {}
        self._taken = {}
        self._noted = []
        self._given = []
        # At each address the bounds of the room that it belongs to, standing or taken back.
        self._owners = [None] * CELLS

    def give_out(self, many, touches):
        """Tell the bounds of a new room of so many cells, None where there is no place for it."""
        if not 1 <= many <= CELLS:
            return None
        size, step = room_of(many)
        low = self._free_low(size, 1 << step)
        if low is None:
            return None
        bounds = low, low + size
        self._owners[low:low + size] = [bounds] * size
        self._standing[bounds] = True
        self._given.append((touches, low, low + size))
        return bounds

    def stands(self, bounds):
        """Tell whether just these are the bounds of a room that stands."""
        return bounds in self._standing

    def take_back(self, bounds):
        """Take a room back, which is given out no more till a sweep is done."""
        del self._standing[bounds]
        self._taken[bounds] = True

    def is_stale(self, word):
        """Tell whether a word is marked and leads into a room that is taken back."""
        return leads_to_cells(word) and self._owners[bounds_in(word[1])[0]] in self._taken

    def struck(self, word):
        """Tell the word, its mark gone where it is stale."""
        return without_mark(word) if self.is_stale(word) else word

    def note(self):
        """Note the rooms that are taken back so far."""
        self._noted = sorted(list(self._taken))

    def free_noted(self):
        """Let the noted rooms be given out again."""
        for low, high in self._noted:
            del self._taken[low, high]
            self._owners[low:high] = [None] * (high - low)
        self._noted = []

    def standing(self):
        """Tell the bounds of the rooms that stand, sorted."""
        return sorted(list(self._standing))

    def taken(self):
        """Tell the bounds of the rooms that are taken back, sorted."""
        return sorted(list(self._taken))

    def given(self):
        """Tell of all rooms, in order, how many touches there were, low and high."""
        return list(self._given)

    def twin(self):
        """Tell Rooms that are alike now, and go on by themselves."""
        other = Rooms(self._heap)
        other._standing = {bounds: True for bounds in self._standing}
        other._taken = {bounds: True for bounds in self._taken}
        other._noted = list(self._noted)
        other._given = list(self._given)
        other._owners = list(self._owners)
        return other

    def __eq__(self, other):
        return isinstance(other, Rooms) and self.all_told() == other.all_told()

    def all_told(self):
        """Tell all that makes these Rooms differ from others."""
        return self._heap, self.standing(), self.taken(), self._noted, self._given

    def _free_low(self, size, step):
        """Tell the least multiple of a step from which so many cells are free, or None."""
        low, high = self._heap
        low = next_multiple(low, step)
        while low + size <= high:
            owner = self._last_owner(low, low + size)
            if owner is None:
                return low
            low = next_multiple(owner[1], step)
        return None

    def _last_owner(self, low, high):
        """Tell the last room of which a cell lies within bounds, None where there is none."""
        owners = [owner for owner in self._owners[low:high] if owner is not None]
        return owners[-1] if owners else None
