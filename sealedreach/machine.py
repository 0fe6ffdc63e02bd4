"""The machine: what its rows do, step by step, with boxes, cells, a shelf of calls, and rooms."""

from sealedreach.asking import holds, number_of
from sealedreach.bounds import CELLS
from sealedreach.cells import EMPTY
from sealedreach.compartments import is_name, look_at_compartments
from sealedreach.errors import Fault, NoName, NoNumber, NoSweep, Sweeping
from sealedreach.hands import first_boxes, look_at_hands
from sealedreach.lesser import bared, is_sealed, walked
from sealedreach.loader import STACK, loaded
from sealedreach.loose import loosely_poke, used
from sealedreach.making import MAKING, made
from sealedreach.rooms import Rooms
from sealedreach.rules import look_at_rule
from sealedreach.switch import (
    FIRST_KEPT, FIRST_LOST, STACK_BOX, handed_on, look_at_call, names_of_rows, number_of_fault,
    stack_word)
from sealedreach.whole import is_whole, is_whole_from
from sealedreach.words import (
    AT, CELLS_WORD_RIGHTS, ENTRY, KIND, NOT_SEALED, bounds_in, field, plain, rights_in, with_field,
    word_to)


class Machine:
    """A machine that runs compartments, perhaps without one of its rules."""

    def __init__(self, compartments, begin, *, stack=STACK, hands=None, without=None):
        look_at_compartments(compartments)
        _look_at_begin(begin, compartments)
        told = loaded(compartments, stack=stack)
        look_at_hands(hands, told["stack"], told["heap"])
        if without is not None:
            look_at_rule(without)
        self._made_of = _own_compartments(compartments), begin, stack
        self._without = without
        self._rows = told["rows"]
        self._words = told["words"]
        self._names = names_of_rows(self._rows, self._words)
        self._stack = told["stack"]
        self._cells = told["cells"]
        self._rooms = Rooms(told["heap"])
        self._row, cells_word, _ = self._words[begin]
        self._boxes = first_boxes(hands, self._stack, cells_word)
        # Of each call: the kept row word, the kept boxes, the bounds of the stack handed on.
        self._shelf = []
        self._touches = []
        self._steps = 0
        self._came = None
        self._swept = None

    def step(self):
        """Do one row, or nothing where something came already."""
        if self._came is not None:
            return
        self._steps += 1
        try:
            self._do(self._row_there())
        except Fault as fault:
            self._end_by_fault(fault.word)

    def run(self, most):
        """Do so many steps at most, and tell what came."""
        if not is_whole_from(most, 0):
            raise NoNumber("steps are a whole number from 0 on")
        last = self._steps + most
        while self._steps < last and self._came is None:
            self.step()
        return self._came

    def boxes(self):
        """Tell the words in the eight boxes."""
        return list(self._boxes)

    def row_word(self):
        """Tell the word whose at is that of the next row."""
        return self._row

    def depth(self):
        """Tell how many calls stand on the shelf."""
        return len(self._shelf)

    def shelf_words(self):
        """Tell of each call, the elder first, the kept row word and boxes 2 to 7."""
        return [word for row_word, kept, _ in self._shelf for word in [row_word, *kept]]

    def own_words(self):
        """Tell of each compartment the rows word and the cells word."""
        return [(rows_word, cells_word) for rows_word, cells_word, _ in list(self._words.values())]

    def steps(self):
        """Tell how many steps were done, faulting ones too."""
        return self._steps

    def cell(self, address):
        """Tell the word that stands at an address."""
        return self._cells.cell(address)

    def told(self):
        """Tell what came of all, None as long as it goes."""
        return self._came

    def touches(self):
        """Tell of each load, store and poke that didn't fault who did what where."""
        return list(self._touches)

    def standing(self):
        """Tell the bounds of the rooms that stand, sorted."""
        return self._rooms.standing()

    def taken(self):
        """Tell the bounds of the rooms that are taken back, sorted."""
        return self._rooms.taken()

    def given(self):
        """Tell of all rooms given out how many touches there were, low and high."""
        return self._rooms.given()

    def loadable(self, low, high):
        """Tell the marked words in cells of bounds whose marks a load doesn't leave away."""
        words = [self._cells.cell(address) for address in self._cells.marked(low, high)]
        return [word for word in words if not self._rooms.is_stale(word)]

    def begin_sweep(self):
        """Begin to strike out the words to all rooms taken back so far."""
        if self._swept is not None:
            raise Sweeping("a sweep is under way")
        self._swept = 0
        self._rooms.note()
        if self._without != "strike":
            self._boxes = self._struck(self._boxes)
            self._shelf = [(self._rooms.struck(row_word), self._struck(kept), part)
                           for row_word, kept, part in self._shelf]

    def sweep(self, many):
        """Go over so many cells more, and tell whether the sweep is done."""
        if self._swept is None:
            raise NoSweep("no sweep is under way")
        if not is_whole(many, 1, CELLS):
            raise NoNumber("a sweep goes on by 1 to 4096 cells")
        behind = min(self._swept + many, CELLS)
        addresses = self._cells.marked(self._swept, behind)
        for address in addresses:
            self._cells.lay(address, self._rooms.struck(self._cells.cell(address)))
        if behind < CELLS:
            self._swept = behind
            return False
        self._rooms.free_noted()
        self._swept = None
        return True

    def swept(self):
        """Tell the address at which the sweep goes on, None where none is under way."""
        return self._swept

    def twin(self):
        """Tell a Machine that is alike now, and goes on by itself."""
        compartments, begin, stack = self._made_of
        other = Machine(compartments, begin, stack=stack, without=self._without)
        other._cells = self._cells.twin()
        other._rooms = self._rooms.twin()
        other._row = self._row
        other._boxes = list(self._boxes)
        other._shelf = [(row_word, list(kept), part) for row_word, kept, part in self._shelf]
        other._touches = list(self._touches)
        other._steps = self._steps
        other._came = self._came
        other._swept = self._swept
        return other

    def __eq__(self, other):
        return isinstance(other, Machine) and self.all_told() == other.all_told()

    def all_told(self):
        """Tell all that makes this Machine differ from others."""
        made_so = self._without, self._rows, list(self._words.items()), self._stack
        now = self._cells, self._rooms, self._row, self._boxes, self._shelf
        return made_so, now, self._touches, self._steps, self._came, self._swept

    def _struck(self, words):
        return [self._rooms.struck(word) for word in words]

    def _row_there(self):
        """Tell the row that is due."""
        low, high = bounds_in(self._row[1])
        at = field(self._row[1], AT)
        if not low <= at < high or at not in self._rows:
            raise Fault("rows")
        return self._rows[at]

    def _do(self, row):
        """Do a row; what faults does so ahead of all that it would change."""
        word = row[0]
        behind = walked(self._row, 1)
        if word == "back":
            behind = self._back()
        elif word in MAKING:
            box, told = made(row, self._boxes, behind, self._without)
            self._boxes[box] = told
        elif word == "load":
            self._load(row)
        elif word in ("store", "poke"):
            self._write(row)
        elif word == "room":
            self._room(row)
        elif word == "give":
            self._give(self._boxes[row[1]])
        else:
            behind = self._row_behind(row, behind)
        self._row = behind

    def _load(self, row):
        _, box, other, offset = row
        by = used(self._boxes[other], self._without)
        there = self._cells.load(by, offset)
        self._boxes[box] = there if self._without == "barrier" else self._rooms.struck(there)
        self._touched("read", by, offset)

    def _write(self, row):
        word, other, offset, box = row
        by = used(self._boxes[other], self._without)
        if word == "store":
            self._cells.store(by, offset, self._boxes[box])
        else:
            loosely_poke(self._cells, by, offset, self._boxes[box][1], self._without)
        self._touched("write", by, offset)

    def _touched(self, what, by, offset):
        name = self._names[field(self._row[1], AT)]
        self._touches.append((name, what, field(by[1], AT) + offset))

    def _room(self, row):
        _, box, by = row
        bounds = self._rooms.give_out(number_of(by, self._boxes), len(self._touches))
        if bounds is None:
            self._boxes[box] = EMPTY
        else:
            self._cells.clear(bounds[0], bounds[1])
            self._boxes[box] = word_to(bounds, CELLS_WORD_RIGHTS)

    def _give(self, word):
        marked, bits = word
        if not marked or is_sealed(bits) or "w" not in rights_in(bits):
            raise Fault("room")
        if not self._rooms.stands(bounds_in(bits)):
            raise Fault("room")
        self._rooms.take_back(bounds_in(bits))

    def _row_behind(self, row, behind):
        """Tell the row word behind a row that may go elsewhere than to the next row."""
        if row[0] == "go":
            return self._at_row(row[1])
        if row[0] == "jump":
            _, test, box, by, to = row
            goes = holds(test, self._boxes[box][1], number_of(by, self._boxes))
            return self._at_row(to) if goes else behind
        if row[0] == "enter":
            return self._entered(self._boxes[row[1]])
        return self._called(self._boxes[row[1]], behind)

    def _at_row(self, number):
        low, _ = bounds_in(self._row[1])
        return True, with_field(self._row[1], AT, (low + number) % CELLS)

    def _entered(self, word):
        marked, bits = word
        if not marked:
            raise Fault("mark")
        if field(bits, KIND) not in (NOT_SEALED, ENTRY) and self._without != "entry":
            raise Fault("seal")
        if "x" not in rights_in(bits):
            raise Fault("right")
        return bared(word)

    def _called(self, gate, behind):
        """Let a call begin, and tell the row word at its first row."""
        handed = self._boxes[STACK_BOX]
        name = look_at_call(gate, handed, self._stack, len(self._shelf), self._words)
        low, high = handed_on(handed)
        self._shelf.append((behind, self._boxes[FIRST_KEPT:], (low, high)))
        self._clear(low, high)
        _, cells_word, _ = self._words[name]
        self._boxes = [*self._boxes[:FIRST_LOST], EMPTY, EMPTY, stack_word(low, high), cells_word]
        return bared(gate)

    def _back(self):
        """Let the call that stands come back, or all end; tell the row word behind it."""
        if not self._shelf:
            self._came = "end", self._boxes[0]
            return self._row
        return self._come_back(self._boxes[0], 0)

    def _end_by_fault(self, word):
        if self._shelf:
            self._row = self._come_back(EMPTY, number_of_fault(word))
        else:
            self._came = "fault", word

    def _come_back(self, answer, fault):
        """Put all back as the last call kept it; tell the kept row word."""
        row_word, kept, (low, high) = self._shelf.pop()
        self._clear(low, high)
        self._boxes = [answer, plain(fault), *kept]
        return row_word

    def _clear(self, low, high):
        if self._without != "clear":
            self._cells.clear(low, high)


def _look_at_begin(thing, compartments):
    if not is_name(thing) or thing not in [one[0] for one in compartments]:
        raise NoName(thing)


def _own_compartments(compartments):
    """Tell compartments that stay as they are, whatever is done to those handed in."""
    return [(name, list(rows), doors, many, uses) for name, rows, doors, many, uses in compartments]
