"""A machine worked out plainly, as the document says it, to hold the program's one against.

Words are tuples (marked, bits), as everywhere, but are taken apart here by division alone; all
that stands is kept in plain dicts and lists, and copied whole ahead of each step.
"""

import plainly

FIELDS = (("at", 12), ("first", 12), ("count", 4), ("step", 4), ("rights", 9), ("kind", 4))
SIGNS = "rwlsnfxco"
NUMBERS = ("mark", "seal", "right", "bounds", "store", "near", "rows", "gate", "stack", "deep",
           "room")
EXACT = plainly.tellable()
NOUGHT = (False, 0)


class Stop(Exception):
    """A fault."""


def parts(bits):
    told = {}
    for name, many in FIELDS:
        told[name] = bits % 2 ** many
        bits //= 2 ** many
    return told


def together(told):
    bits = 0
    for name, many in reversed(FIELDS):
        bits = bits * 2 ** many + told[name]
    return bits


def changed(bits, **others):
    return together({**parts(bits), **others})


def rights_of(bits):
    number = parts(bits)["rights"]
    return "".join(sign for place, sign in enumerate(SIGNS) if number // 2 ** place % 2)


def number_of_rights(rights):
    return sum(2 ** SIGNS.index(sign) for sign in rights)


def tells(bits):
    told = parts(bits)
    return plainly.tells(told["step"], told["first"], told["count"] + 1)


def bounds_of(bits):
    told = parts(bits)
    low = told["first"] * 2 ** told["step"]
    return low, low + (told["count"] + 1) * 2 ** told["step"]


def lawful(word):
    return not word[0] or (tells(word[1]) and plainly.go_together(rights_of(word[1])))


def to_cells(word):
    return word[0] and any(sign in "rwlsn" for sign in rights_of(word[1]))


def with_bounds(bits, low, high):
    step, first, count = EXACT[low, high][0]
    return changed(bits, step=step, first=first, count=count - 1)


def least(low, high):
    """The least bounds that can be told and hold these, of all tried one by one."""
    best = None
    for step in range(9):
        first, behind = low // 2 ** step, -(-high // 2 ** step)
        told = (first * 2 ** step, behind * 2 ** step)
        if told in EXACT and (best is None or told[1] - told[0] < best[1] - best[0]):
            best = told
    return best


def narrow(word, many, exact, beyond):
    marked, bits = word
    low = parts(bits)["at"]
    if not marked:
        return word
    if many < 1 or low + many > 4096 or (exact and (low, low + many) not in EXACT):
        return False, bits
    told = least(low, low + many)
    own = bounds_of(bits)
    if not beyond and not (own[0] <= told[0] and told[1] <= own[1]):
        return False, bits
    return True, with_bounds(bits, *told)


def copied(state):
    """All that stands, so that nothing done to it later changes it."""
    told = dict(state)
    for name in ("boxes", "touches", "standing", "taken", "noted", "given"):
        told[name] = list(state[name])
    told["cells"] = dict(state["cells"])
    told["shelf"] = [{**call, "boxes": list(call["boxes"])} for call in state["shelf"]]
    return told


class Plain:
    """The machine; `state` holds all that changes."""

    def __init__(self, compartments, begin, stack=64, hands=None, without=None):
        from test_loader import rooms_behind
        self.without = without
        self.names = [one[0] for one in compartments]
        self.row_rooms = rooms_behind(0, [len(one[1]) for one in compartments])
        *self.cell_rooms, self.stack = rooms_behind(16, [one[3] for one in compartments] + [stack])
        self.heap = -(-self.stack[1] // 16) * 16
        self.rows = {}
        cells = {}
        for k, (_, rows, _, _, uses) in enumerate(compartments):
            for number, row in enumerate(rows):
                self.rows[self.row_rooms[k][0] + number] = row
            cells[self.cell_rooms[k][0]] = plainly.word(3 + k, 4 + k, rights="fco")
            for place, (name, door) in enumerate(uses):
                used = self.names.index(name)
                room = self.row_rooms[used]
                cells[self.cell_rooms[k][0] + 1 + place] = plainly.word(
                    *room, room[0] + compartments[used][2][door], "fx", 2)
        own = self.names.index(begin)
        boxes = [NOUGHT] * 6
        for box, word in (hands or {}).items():
            boxes[box] = word
        self.state = {
            "boxes": boxes + [self.stack_word(*self.stack), self.cells_word(own)],
            "row": self.rows_word(own), "cells": cells, "shelf": [], "touches": [], "steps": 0,
            "came": None, "standing": [], "taken": [], "noted": [], "given": [], "swept": None}
        # How often each fault was due, and each row done.
        self.faults, self.done = {}, {}

    def rows_word(self, k):
        return plainly.word(*self.row_rooms[k], rights="fx")

    def cells_word(self, k):
        return plainly.word(*self.cell_rooms[k], rights="rwlsf")

    def stack_word(self, low, high):
        return plainly.word(low, high, high, "rwlsn")

    # What is told.

    def boxes(self):
        return list(self.state["boxes"])

    def row_word(self):
        return self.state["row"]

    def cell(self, address):
        return self.state["cells"].get(address, NOUGHT)

    def shelf_words(self):
        told = []
        for call in self.state["shelf"]:
            told.append(call["row"])
            told.extend(call["boxes"])
        return told

    def own_words(self):
        return [(self.rows_word(k), self.cells_word(k)) for k in range(len(self.names))]

    # Steps.

    def step(self):
        if self.state["came"] is not None:
            return
        before = copied(self.state)
        try:
            self.do()
        except Stop as stop:
            self.state = before
            fault = stop.args[0]
            self.faults[fault] = self.faults.get(fault, 0) + 1
            if self.state["shelf"]:
                self.come_back(NOUGHT, (False, 1 + NUMBERS.index(fault)))
            else:
                self.state["came"] = ("fault", fault)
        self.state["steps"] = before["steps"] + 1

    def do(self):
        bits = self.state["row"][1]
        low, high = bounds_of(bits)
        self.here = parts(bits)["at"]
        if not low <= self.here < high or self.here not in self.rows:
            raise Stop("rows")
        row = self.rows[self.here]
        self.state["row"] = (True, changed(bits, at=(self.here + 1) % 4096))
        getattr(self, "do_" + row[0])(*row[1:])
        self.done[row[0]] = self.done.get(row[0], 0) + 1

    def number(self, by):
        return self.state["boxes"][by[1]][1] if by[0] == "box" else by[1]

    def put(self, box, word):
        self.state["boxes"][box] = word

    def do_set(self, box, number):
        self.put(box, (False, number))

    def do_move(self, box, other):
        self.put(box, self.state["boxes"][other])

    def do_do(self, what, box, by):
        one, other = self.state["boxes"][box][1], self.number(by)
        pairs = [(one // 2 ** k % 2, other // 2 ** k % 2) for k in range(45)]
        told = {"plus": one + other, "minus": one - other, "times": one * other,
                "and": sum(2 ** k for k, pair in enumerate(pairs) if pair == (1, 1)),
                "or": sum(2 ** k for k, pair in enumerate(pairs) if pair != (0, 0)),
                "either": sum(2 ** k for k, pair in enumerate(pairs) if sum(pair) == 1)}[what]
        self.put(box, (False, told % 2 ** 45))

    def seals(self, word):
        """Whether a word is sealed, for what is loose without `sealed`."""
        return parts(word[1])["kind"] != 0 and self.without != "sealed"

    def do_walk(self, box, by):
        marked, bits = self.state["boxes"][box]
        if marked and self.seals((marked, bits)):
            self.put(box, (False, bits))
        else:
            at = (parts(bits)["at"] + self.number(by)) % 4096
            self.put(box, (marked, changed(bits, at=at)))

    def do_narrow(self, box, by, exact=False):
        marked, bits = self.state["boxes"][box]
        if marked and self.seals((marked, bits)):
            self.put(box, (False, bits))
        else:
            told = narrow((marked, bits), self.number(by), exact, self.without == "narrow")
            self.put(box, told)

    def do_exact(self, box, by):
        self.do_narrow(box, by, True)

    def do_less(self, box, rights):
        marked, bits = self.state["boxes"][box]
        if not marked:
            return
        if self.seals((marked, bits)):
            self.put(box, (False, bits))
            return
        word = (True, changed(bits, rights=number_of_rights(rights)))
        if self.without != "less" or not lawful(word):
            kept = [sign for sign in rights_of(bits) if sign in rights]
            word = (True, changed(bits, rights=number_of_rights(kept)))
        self.put(box, word)

    def gives(self, word, right):
        marked, bits = word
        at = parts(bits)["at"]
        return (marked and parts(bits)["kind"] == 0 and right in rights_of(bits)
                and bounds_of(bits)[0] <= at < bounds_of(bits)[1] and 3 <= at <= 15)

    def do_seal(self, box, other):
        (marked, bits), by = self.state["boxes"][box], self.state["boxes"][other]
        if not marked:
            return
        if parts(bits)["kind"] != 0 or not self.gives(by, "c"):
            self.put(box, (False, bits))
        else:
            self.put(box, (True, changed(bits, kind=parts(by[1])["at"])))

    def do_open(self, box, other):
        (marked, bits), by = self.state["boxes"][box], self.state["boxes"][other]
        if not marked:
            return
        kind = parts(bits)["kind"]
        opens = self.gives(by, "o") and kind == parts(by[1])["at"]
        if self.without == "open" and kind >= 3 and by[0]:
            opens = True
        if not opens:
            self.put(box, (False, bits))
            return
        kept = [sign for sign in rights_of(bits) if sign != "f" or "f" in rights_of(by[1])]
        self.put(box, (True, changed(bits, kind=0, rights=number_of_rights(kept))))

    def do_entry(self, box):
        marked, bits = self.state["boxes"][box]
        if marked and parts(bits)["kind"] == 0 and "x" in rights_of(bits):
            self.put(box, (True, changed(bits, kind=1)))
        else:
            self.put(box, (False, bits))

    def do_ask(self, box, what, other):
        marked, bits = self.state["boxes"][box]
        told = {"mark": int(marked), "bits": bits, "low": 0, "high": 0}
        told.update({name: parts(bits)[name] for name in ("at", "rights", "kind")})
        if tells(bits):
            told["low"], told["high"] = bounds_of(bits)
        self.put(other, (False, told[what]))

    def do_here(self, box):
        self.put(box, self.state["row"])

    def reached(self, word, offset, right):
        marked, bits = word
        if not marked:
            raise Stop("mark")
        if self.seals(word):
            raise Stop("seal")
        if right not in rights_of(bits):
            raise Stop("right")
        address = parts(bits)["at"] + offset
        if not bounds_of(bits)[0] <= address < bounds_of(bits)[1]:
            raise Stop("bounds")
        what = "read" if right == "r" else "write"
        for name, (low, high) in zip(self.names, self.row_rooms):
            if low <= self.here < high:
                self.state["touches"].append((name, what, address))
        return address

    def stale(self, word):
        low = bounds_of(word[1])[0]
        return to_cells(word) and any(one <= low < other for one, other in self.state["taken"])

    def do_load(self, box, other, offset):
        by = self.state["boxes"][other]
        word = self.cell(self.reached(by, offset, "r"))
        if "l" not in rights_of(by[1]) and self.without != "load":
            word = (False, word[1])
        if self.stale(word) and self.without != "barrier":
            word = (False, word[1])
        self.put(box, word)

    def do_store(self, other, offset, box):
        by, word = self.state["boxes"][other], self.state["boxes"][box]
        address = self.reached(by, offset, "w")
        if word[0] and "s" not in rights_of(by[1]):
            raise Stop("store")
        near = "f" not in rights_of(word[1]) and "n" not in rights_of(by[1])
        if word[0] and near and self.without != "near":
            raise Stop("near")
        self.state["cells"][address] = word

    def do_poke(self, other, offset, box):
        address = self.reached(self.state["boxes"][other], offset, "w")
        marked, bits = self.cell(address)
        number = self.state["boxes"][box][1]
        bits = bits // 2 ** 28 * 2 ** 28 + number % 2 ** 28
        keeps = marked and self.without == "poke" and lawful((True, bits))
        self.state["cells"][address] = (keeps, bits)

    def go(self, to):
        bits = self.state["row"][1]
        self.state["row"] = (True, changed(bits, at=(bounds_of(bits)[0] + to) % 4096))

    def do_jump(self, what, box, by, to):
        one, other = self.state["boxes"][box][1], self.number(by)
        if {"same": one == other, "unlike": one != other, "under": one < other,
                "from": not one < other}[what]:
            self.go(to)

    def do_go(self, to):
        self.go(to)

    def do_enter(self, box):
        marked, bits = self.state["boxes"][box]
        if not marked:
            raise Stop("mark")
        if parts(bits)["kind"] > 1 and self.without != "entry":
            raise Stop("seal")
        if "x" not in rights_of(bits):
            raise Stop("right")
        self.state["row"] = (True, changed(bits, kind=0))

    # Calls.

    def wipe(self, low, high):
        for address in range(low, high):
            self.state["cells"].pop(address, None)

    def do_call(self, box):
        marked, bits = self.state["boxes"][box]
        if not marked:
            raise Stop("mark")
        if parts(bits)["kind"] != 2 or bounds_of(bits) not in self.row_rooms:
            raise Stop("gate")
        marked, handed = self.state["boxes"][6]
        if not marked or parts(handed)["kind"] != 0 or rights_of(handed) != "rwlsn":
            raise Stop("stack")
        low, high = bounds_of(handed)
        at = parts(handed)["at"]
        if low < self.stack[0] or high > self.stack[1] or not low < at <= high:
            raise Stop("stack")
        if len(self.state["shelf"]) == 8:
            raise Stop("deep")
        high = max(to for to in range(low, at + 1) if (low, to) in EXACT)
        self.state["shelf"].append({"row": self.state["row"], "part": (low, high),
                                    "boxes": self.state["boxes"][2:]})
        if self.without != "clear":
            self.wipe(low, high)
        called = self.row_rooms.index(bounds_of(bits))
        self.state["boxes"][4:] = [NOUGHT, NOUGHT, self.stack_word(low, high),
                                   self.cells_word(called)]
        self.state["row"] = (True, changed(bits, kind=0))

    def come_back(self, zero, one):
        call = self.state["shelf"].pop()
        if self.without != "clear":
            self.wipe(*call["part"])
        self.state["row"] = call["row"]
        self.state["boxes"] = [zero, one] + call["boxes"]

    def do_back(self):
        if self.state["shelf"]:
            self.come_back(self.state["boxes"][0], NOUGHT)
        else:
            self.state["came"] = ("end", self.state["boxes"][0])
            self.state["row"] = (True, changed(self.state["row"][1], at=self.here))

    # Rooms and sweeps.

    def do_room(self, box, by):
        many = self.number(by)
        self.put(box, NOUGHT)
        if not 1 <= many <= 4096:
            return
        step = 0
        while 16 * 2 ** step < many:
            step += 1
        size = -(-many // 2 ** step) * 2 ** step
        held = self.state["standing"] + self.state["taken"]
        for low in range(0, 4097 - size, 2 ** step):
            if low >= self.heap and all(high <= low or low + size <= one for one, high in held):
                self.state["standing"].append((low, low + size))
                self.state["given"].append((len(self.state["touches"]), low, low + size))
                self.wipe(low, low + size)
                self.put(box, plainly.word(low, low + size, rights="rwlsf"))
                return

    def do_give(self, box):
        marked, bits = self.state["boxes"][box]
        if not marked or parts(bits)["kind"] != 0 or "w" not in rights_of(bits):
            raise Stop("room")
        if bounds_of(bits) not in self.state["standing"]:
            raise Stop("room")
        self.state["standing"].remove(bounds_of(bits))
        self.state["taken"].append(bounds_of(bits))

    def strike(self, word):
        return (False, word[1]) if self.stale(word) else word

    def begin_sweep(self):
        assert self.state["swept"] is None
        self.state["swept"] = 0
        self.state["noted"] = list(self.state["taken"])
        if self.without != "strike":
            self.state["boxes"] = [self.strike(word) for word in self.state["boxes"]]
            for call in self.state["shelf"]:
                call["row"] = self.strike(call["row"])
                call["boxes"] = [self.strike(word) for word in call["boxes"]]

    def sweep(self, many):
        low = self.state["swept"]
        high = min(4096, low + many)
        for address in range(low, high):
            self.state["cells"][address] = self.strike(self.cell(address))
        self.state["swept"] = high
        if high < 4096:
            return False
        self.state["swept"] = None
        for bounds in self.state["noted"]:
            self.state["taken"].remove(bounds)
        self.state["noted"] = []
        return True
