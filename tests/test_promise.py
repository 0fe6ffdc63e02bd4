"""What the document promises of every program, held against drawn ones."""

import random
import unittest

import drawn
import plainly
import plainreach
from made import cells_in, cells_of, one, rows_of
from plainly import word
from plainmachine import Plain, bounds_of, changed, parts, rights_of, to_cells
from sealedreach.lesser import lies_within
from sealedreach.machine import Machine
from sealedreach.reach import is_closed, lets_be, reach
from sealedreach.texts import read, read_word, shown, shown_word

STEPS = 200


def drawn_machine(seed, hands=True, without=None):
    chance = random.Random(seed)
    compartments, begin, stack = drawn.draw(chance)
    handed = drawn.draw_hands(chance) if hands and chance.random() < 0.4 else None
    return Machine(compartments, begin, stack=stack, hands=handed, without=without), chance


def rows_at(seed):
    """The rows of that machine, by their addresses."""
    return Plain(*drawn.draw(random.Random(seed))).rows


def some_sweep(machine, chance):
    """Now and then a sweep is begun, or goes on."""
    if chance.random() < 0.08:
        if machine.swept() is None:
            machine.begin_sweep()
        machine.sweep(chance.choice((1, 30, 100, 1000, 4000, 4096)))


def words_in_cells(machine):
    """The words in all cells but those of the heap that no room was given out from."""
    words = cells_in(machine, 0, drawn.MOST_USED)
    for low, high in {bounds[1:] for bounds in machine.given()}:
        words.extend(cells_in(machine, low, high))
    return words


def marked_words(machine):
    """All marked words that there are."""
    held = machine.boxes() + machine.shelf_words() + [machine.row_word()] + words_in_cells(machine)
    return {told for told in held if told[0]}


def of_kind(told, kind):
    """The word with that kind in the stead of its own."""
    return True, changed(told[1], kind=kind)


class Reaches(unittest.TestCase):
    """Point 3 (a)."""

    def tables(self, machine, chance):
        """Closed tables, told ones and such with words beside, each with whether gates were asked."""
        for gates in (False, True):
            yield reach(machine, gates=gates), gates
            beside = [plainly.any_word(chance, True) for _ in range(chance.randrange(3))]
            yield plainreach.least(machine, gates, beside), gates

    def goes_on(self, machine, chance, held):
        """A step; all tables that still bound the machine let all touches be."""
        depth = machine.depth()
        machine.step()
        if machine.depth() != depth:
            held[:] = [kept for kept in held if kept[1]]
        some_sweep(machine, chance)
        for table, _, since in held:
            self.assertTrue(lets_be(table, machine, since=since))
        return sum(len(machine.touches()) - since for _, _, since in held)

    def test_drawn_ones(self):
        let_be = 0
        for seed in range(700, 800):
            machine, chance = drawn_machine(seed)
            held = []
            while machine.told() is None and machine.steps() < STEPS:
                if machine.steps() % 40 == 0:
                    for table, gates in self.tables(machine, chance):
                        self.assertTrue(is_closed(machine, table, gates=gates))
                        held.append((table, gates, len(machine.touches())))
                let_be += self.goes_on(machine, chance, held)
        self.assertGreater(let_be, 10000)

    def test_a_narrower_table_does_not_let_all_be(self):
        """So the tests above would see it."""
        missed = 0
        for seed in range(700, 730):
            machine, _ = drawn_machine(seed)
            table = reach(machine, gates=True)
            machine.run(STEPS)
            for left_out in table:
                rest = [told for told in table if told != left_out]
                self.assertFalse(is_closed(drawn_machine(seed)[0], rest, gates=True))
                missed += not lets_be(rest, machine)
        self.assertGreater(missed, 30)

    def test_words_stay_within_the_table(self):
        """All marked words of a machine, but those to rooms given out since, lie within it."""
        for seed in range(830, 880):
            machine, chance = drawn_machine(seed)
            machine.run(chance.randrange(30))
            table, given = reach(machine, gates=True), len(machine.given())
            machine.run(STEPS)
            rooms = [(low, high) for _, low, high in machine.given()[given:]]
            held = machine.boxes() + machine.shelf_words() + [machine.row_word()]
            for told in held:
                low, high = bounds_of(told[1])
                if told[0] and not any(low < behind and first < high for first, behind in rooms):
                    self.assertTrue(any(lies_within(told, other) for other in table), seed)


class NoRowWidens(unittest.TestCase):
    """Point 3 (b)."""

    def lies_in(self, told, there):
        return any(lies_within(told, other) for other in there)

    def excepted(self, told, row, there, machine):
        """Whether the point tells that such a word may come of such a row."""
        if row[0] == "open":
            return any(self.lies_in(of_kind(told, kind), there) for kind in range(3, 16))
        if row[0] == "enter":
            return told == machine.row_word() and self.lies_in(of_kind(told, 1), there)
        if row[0] == "call" and told == machine.row_word():
            return self.lies_in(of_kind(told, 2), there)
        if row[0] == "call":
            return told in [cells_word for _, cells_word in machine.own_words()]
        if row[0] == "room":
            return bounds_of(told[1]) == machine.given()[-1][1:] and rights_of(told[1]) == "rwlsf"
        return False

    def test_drawn_ones(self):
        seen = {}
        for seed in range(120):
            machine, chance = drawn_machine(seed)
            rows = rows_at(seed)
            there = marked_words(machine)
            while machine.told() is None and machine.steps() < STEPS:
                row = rows.get(parts(machine.row_word()[1])["at"])
                machine.step()
                now = marked_words(machine)
                for fresh in now - there:
                    if not self.lies_in(fresh, there):
                        self.assertTrue(self.excepted(fresh, row, there, machine), (seed, row))
                        seen[row[0]] = seen.get(row[0], 0) + 1
                some_sweep(machine, chance)
                there = now
            self.assertLessEqual({told for told in cells_of(machine) if told[0]}, there)
        self.assertGreater(seen["room"], 100)
        self.assertGreater(seen["call"], 100)

    def test_what_the_point_tells(self):
        """An opener, an entry, a gate and a room bring words that lie within none there was."""
        own, locked = word(5, 9, rights="rwf"), word(5, 9, rights="rwf", kind=3)
        for text, hands, fresh in [
                ("load 1 7 0; open 0 1", {0: locked}, own),
                ("less 6 -; enter 0", {0: word(9, 12, rights="fx", kind=1)}, word(9, 12, rights="fx")),
                ("room 0 #2", None, word(96, 98, rights="rwlsf"))]:
            machine = one(text, hands)
            machine.run(len(rows_of(text)) - 1)
            there = marked_words(machine)
            machine.step()
            self.assertIn(fresh, marked_words(machine))
            self.assertFalse(self.lies_in(fresh, there))


class Callers(unittest.TestCase):
    """Point 3 (c)."""

    def stands(self, machine):
        """What a caller keeps: the shelf's words, and the used stack of each call."""
        told = machine.shelf_words()
        return [told[7 * k:7 * k + 7] for k in range(machine.depth())]

    def same_but_for_marks(self, words, others):
        for told, other in zip(words, others, strict=True):
            self.assertEqual(told[1], other[1])
            self.assertTrue(told[0] == other[0] or (not told[0] and to_cells(other)))

    def hands_stack(self, machine, stack):
        """Whether a marked word to the stack stands in a box that is handed over."""
        return any(to_cells(told) and bounds_of(told[1])[0] < stack[1]
                   and stack[0] < bounds_of(told[1])[1] for told in machine.boxes()[:4])

    def called(self, before, machine, stack):
        """A call just began: it came by a gate; what is to be found when it comes back."""
        row, *kept = self.stands(machine)[-1]
        self.assertEqual(kept, before.boxes()[2:])
        self.assertEqual(row, (True, changed(before.row_word()[1],
                                             at=parts(before.row_word()[1])["at"] + 1)))
        self.assertIn(of_kind(machine.row_word(), 2), before.boxes())
        low, high = bounds_of(machine.boxes()[6][1])
        self.assertEqual(cells_in(machine, low, high), [(False, 0)] * (high - low))
        return {"row": row, "kept": kept, "part": (low, high),
                "handed": self.hands_stack(before, stack), "used": cells_in(machine, high, stack[1])}

    def came_back(self, call, machine, stack):
        low, high = call["part"]
        self.assertEqual(machine.row_word(), call["row"])
        self.same_but_for_marks(machine.boxes()[2:], call["kept"])
        self.assertEqual(cells_in(machine, low, high), [(False, 0)] * (high - low))
        if not call["handed"]:
            self.same_but_for_marks(cells_in(machine, high, stack[1]), call["used"])
        return not call["handed"]

    def test_drawn_ones(self):
        many = faulted = 0
        for seed in range(200, 320):
            machine, chance = drawn_machine(seed)
            stack = bounds_of(machine.boxes()[6][1])
            calls = []
            while machine.told() is None and machine.steps() < STEPS:
                before = machine.twin()
                machine.step()
                if machine.depth() > before.depth():
                    calls.append(self.called(before, machine, stack))
                elif machine.depth() < before.depth():
                    many += self.came_back(calls.pop(), machine, stack)
                    faulted += machine.boxes()[1] != (False, 0)
                kept = [held for call in calls for held in [call["row"], *call["kept"]]]
                self.same_but_for_marks(machine.shelf_words(), kept)
                some_sweep(machine, chance)
        self.assertGreater(many, 200)
        self.assertGreater(faulted, 100)


class Sweeps(unittest.TestCase):
    """Point 3 (e)."""

    def leads_into(self, told, rooms):
        if not to_cells(told):
            return False
        low, high = bounds_of(told[1])
        return any(low < behind and first < high for first, behind in rooms)

    def test_drawn_ones(self):
        done = struck = 0
        for seed in range(400, 600):
            machine, chance = drawn_machine(seed, hands=False)
            noted = []
            given = 0
            while machine.told() is None and machine.steps() < STEPS:
                machine.run(chance.randrange(6))
                for _, low, high in machine.given()[given:]:
                    self.assertFalse(any(low < behind and first < high for first, behind in noted))
                given = len(machine.given())
                if machine.swept() is None:
                    noted = machine.taken()
                    machine.begin_sweep()
                if machine.sweep(chance.choice((10, 100, 1000, 4096))):
                    held = machine.boxes() + machine.shelf_words() + words_in_cells(machine)
                    self.assertFalse(any(self.leads_into(told, noted) for told in held))
                    struck += any(self.leads_into((True, told[1]), noted) for told in held)
                    self.assertFalse([bounds for bounds in noted if bounds in machine.taken()])
                    noted = []
                    done += 1
        self.assertGreater(done, 500)
        self.assertGreater(struck, 100)


class Places:
    """Where words of a machine lead, told so that no address and no kind of its own occurs."""

    def __init__(self, machine, compartments):
        self.machine = machine
        self.names = [one_of[0] for one_of in compartments]
        self.rows = [bounds_of(rows_word[1]) for rows_word, _ in machine.own_words()]
        self.cells = [bounds_of(cells_word[1]) for _, cells_word in machine.own_words()]
        self.stack = bounds_of(machine.boxes()[6][1])

    def place(self, address, rights="r"):
        """What an address belongs to, and the first address of that."""
        if "x" in rights:
            rooms = zip(self.names, self.rows)
        elif "c" in rights or "o" in rights:
            rooms = [(name, (3 + k, 4 + k)) for k, name in enumerate(self.names)]
        else:
            rooms = [*zip(self.names, self.cells), ("stack", self.stack)]
            given = self.machine.given()
            rooms += [(k, given[k][1:]) for k in reversed(range(len(given)))]
        return next((name, low) for name, (low, high) in rooms if low <= address < high)

    def kind(self, kind):
        return kind if kind < 3 else self.names[kind - 3]

    def word(self, told):
        if not told[0]:
            return "plain"
        rights = rights_of(told[1])
        if not set(rights) & set("rwlsnxco"):
            return rights, self.kind(parts(told[1])["kind"])
        low, high = bounds_of(told[1])
        name, first = self.place(low, rights)
        return (name, low - first, high - first, (parts(told[1])["at"] - first) % 4096, rights,
                self.kind(parts(told[1])["kind"]))

    def touches(self):
        told = []
        for name, what, address in self.machine.touches():
            place, first = self.place(address)
            told.append((name, what, place, address - first))
        return told

    def table(self, gates):
        return sorted([self.word(told) for told in reach(self.machine, gates=gates)])

    def all_told(self):
        """All that is alike in whatever order; box 5 holds numbers, 0 and 1 what calls answer."""
        machine, came = self.machine, self.machine.told()
        if came is not None and came[0] == "end":
            came = ("end", self.word(came[1]))
        return {"boxes": [self.word(told) for told in machine.boxes()], "number": machine.boxes()[5],
                "row": self.word(machine.row_word()), "came": came, "steps": machine.steps(),
                "shelf": [self.word(told) for told in machine.shelf_words()],
                "touches": self.touches(), "given": [told[0] for told in machine.given()]}


class Orders(unittest.TestCase):
    """Point 3 (g)."""

    def go_both(self, seed):
        chance = random.Random(seed)
        compartments, begin, stack = drawn.draw_blind(chance)
        other = list(compartments)
        while other == compartments:
            chance.shuffle(other)
        both = [Places(Machine(made, begin, stack=stack), made) for made in (compartments, other)]
        for gates in (False, True):
            self.assertEqual(both[0].table(gates), both[1].table(gates))
        for _ in range(30):
            many, sweeps = chance.randrange(9), chance.random() < 0.2
            for places in both:
                places.machine.run(many)
                if sweeps:
                    places.machine.begin_sweep()
                    places.machine.sweep(4096)
            self.assertEqual(both[0].all_told(), both[1].all_told(), seed)
        return both[0].machine

    def test_drawn_ones(self):
        touches = calls = 0
        for seed in range(200):
            machine = self.go_both(seed)
            touches += len(machine.touches())
            calls += machine.depth()
        self.assertGreater(touches, 3000)
        self.assertGreater(calls, 50)

    def test_tables_at_first(self):
        """Of any programs, whatever their rows go by."""
        for seed in range(60):
            chance = random.Random(seed)
            compartments, begin, stack = drawn.draw(chance)
            other = chance.sample(compartments, len(compartments))
            both = [Places(Machine(made, begin, stack=stack), made) for made in (compartments, other)]
            for gates in (False, True):
                self.assertEqual(both[0].table(gates), both[1].table(gates))


class Written(unittest.TestCase):
    """Point 3 (h)."""

    def test_drawn_ones(self):
        for seed in range(60):
            chance = random.Random(seed)
            compartments, begin, stack = drawn.draw(chance)
            self.assertEqual(read(shown(compartments)), compartments)
            machine = Machine(read(shown(compartments)), begin, stack=stack)
            self.assertTrue(machine == Machine(compartments, begin, stack=stack))
            machine.run(STEPS)
            for told in machine.boxes() + machine.shelf_words() + words_in_cells(machine):
                self.assertEqual(read_word(shown_word(told)), told)


if __name__ == "__main__":
    unittest.main()
