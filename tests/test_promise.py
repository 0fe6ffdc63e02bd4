"""What the document promises of every program, held against drawn ones."""

import random
import unittest

import drawn
from made import cells_in, cells_of, one, rows_of
from plainly import word
from plainmachine import Plain, bounds_of, changed, parts, rights_of, to_cells
from sealedreach.lesser import lies_within
from sealedreach.machine import Machine

STEPS = 200


def drawn_machine(seed, hands=True, without=None):
    chance = random.Random(seed)
    compartments, begin, stack = drawn.draw(chance)
    handed = drawn.draw_hands(chance) if hands and chance.random() < 0.4 else None
    return Machine(compartments, begin, stack=stack, hands=handed, without=without), chance


def rows_at(seed):
    """The rows of that machine, by their addresses."""
    return Plain(*drawn.draw(random.Random(seed))).rows


def some_sweep(machine, chance):
    """Now and then a sweep is begun, or goes on."""
    if chance.random() < 0.08:
        if machine.swept() is None:
            machine.begin_sweep()
        machine.sweep(chance.choice((1, 30, 100, 1000, 4000, 4096)))


def words_in_cells(machine):
    """The words in all cells but those of the heap that no room was given out from."""
    words = cells_in(machine, 0, drawn.MOST_USED)
    for low, high in {bounds[1:] for bounds in machine.given()}:
        words.extend(cells_in(machine, low, high))
    return words


def marked_words(machine):
    """All marked words that there are."""
    held = machine.boxes() + machine.shelf_words() + [machine.row_word()] + words_in_cells(machine)
    return {told for told in held if told[0]}


def of_kind(told, kind):
    """The word with that kind in the stead of its own."""
    return True, changed(told[1], kind=kind)


class NoRowWidens(unittest.TestCase):
    """Point 3 (b)."""

    def lies_in(self, told, there):
        return any(lies_within(told, other) for other in there)

    def excepted(self, told, row, there, machine):
        """Whether the point tells that such a word may come of such a row."""
        if row[0] == "open":
            return any(self.lies_in(of_kind(told, kind), there) for kind in range(3, 16))
        if row[0] == "enter":
            return told == machine.row_word() and self.lies_in(of_kind(told, 1), there)
        if row[0] == "call" and told == machine.row_word():
            return self.lies_in(of_kind(told, 2), there)
        if row[0] == "call":
            return told in [cells_word for _, cells_word in machine.own_words()]
        if row[0] == "room":
            return bounds_of(told[1]) == machine.given()[-1][1:] and rights_of(told[1]) == "rwlsf"
        return False

    def test_drawn_ones(self):
        seen = {}
        for seed in range(120):
            machine, chance = drawn_machine(seed)
            rows = rows_at(seed)
            there = marked_words(machine)
            while machine.told() is None and machine.steps() < STEPS:
                row = rows.get(parts(machine.row_word()[1])["at"])
                machine.step()
                now = marked_words(machine)
                for fresh in now - there:
                    if not self.lies_in(fresh, there):
                        self.assertTrue(self.excepted(fresh, row, there, machine), (seed, row))
                        seen[row[0]] = seen.get(row[0], 0) + 1
                some_sweep(machine, chance)
                there = now
            self.assertLessEqual({told for told in cells_of(machine) if told[0]}, there)
        self.assertGreater(seen["room"], 100)
        self.assertGreater(seen["call"], 100)

    def test_what_the_point_tells(self):
        """An opener, an entry, a gate and a room bring words that lie within none there was."""
        own, locked = word(5, 9, rights="rwf"), word(5, 9, rights="rwf", kind=3)
        for text, hands, fresh in [
                ("load 1 7 0; open 0 1", {0: locked}, own),
                ("less 6 -; enter 0", {0: word(9, 12, rights="fx", kind=1)}, word(9, 12, rights="fx")),
                ("room 0 #2", None, word(96, 98, rights="rwlsf"))]:
            machine = one(text, hands)
            machine.run(len(rows_of(text)) - 1)
            there = marked_words(machine)
            machine.step()
            self.assertIn(fresh, marked_words(machine))
            self.assertFalse(self.lies_in(fresh, there))


class Callers(unittest.TestCase):
    """Point 3 (c)."""

    def stands(self, machine):
        """What a caller keeps: the shelf's words, and the used stack of each call."""
        told = machine.shelf_words()
        return [told[7 * k:7 * k + 7] for k in range(machine.depth())]

    def same_but_for_marks(self, words, others):
        for told, other in zip(words, others, strict=True):
            self.assertEqual(told[1], other[1])
            self.assertTrue(told[0] == other[0] or (not told[0] and to_cells(other)))

    def hands_stack(self, machine, stack):
        """Whether a marked word to the stack stands in a box that is handed over."""
        return any(to_cells(told) and bounds_of(told[1])[0] < stack[1]
                   and stack[0] < bounds_of(told[1])[1] for told in machine.boxes()[:4])

    def called(self, before, machine, stack):
        """A call just began: it came by a gate; what is to be found when it comes back."""
        row, *kept = self.stands(machine)[-1]
        self.assertEqual(kept, before.boxes()[2:])
        self.assertEqual(row, (True, changed(before.row_word()[1],
                                             at=parts(before.row_word()[1])["at"] + 1)))
        self.assertIn(of_kind(machine.row_word(), 2), before.boxes())
        low, high = bounds_of(machine.boxes()[6][1])
        self.assertEqual(cells_in(machine, low, high), [(False, 0)] * (high - low))
        return {"row": row, "kept": kept, "part": (low, high),
                "handed": self.hands_stack(before, stack), "used": cells_in(machine, high, stack[1])}

    def came_back(self, call, machine, stack):
        low, high = call["part"]
        self.assertEqual(machine.row_word(), call["row"])
        self.same_but_for_marks(machine.boxes()[2:], call["kept"])
        self.assertEqual(cells_in(machine, low, high), [(False, 0)] * (high - low))
        if not call["handed"]:
            self.same_but_for_marks(cells_in(machine, high, stack[1]), call["used"])
        return not call["handed"]

    def test_drawn_ones(self):
        many = faulted = 0
        for seed in range(200, 320):
            machine, chance = drawn_machine(seed)
            stack = bounds_of(machine.boxes()[6][1])
            calls = []
            while machine.told() is None and machine.steps() < STEPS:
                before = machine.twin()
                machine.step()
                if machine.depth() > before.depth():
                    calls.append(self.called(before, machine, stack))
                elif machine.depth() < before.depth():
                    many += self.came_back(calls.pop(), machine, stack)
                    faulted += machine.boxes()[1] != (False, 0)
                kept = [held for call in calls for held in [call["row"], *call["kept"]]]
                self.same_but_for_marks(machine.shelf_words(), kept)
                some_sweep(machine, chance)
        self.assertGreater(many, 200)
        self.assertGreater(faulted, 100)


class Sweeps(unittest.TestCase):
    """Point 3 (e)."""

    def leads_into(self, told, rooms):
        if not to_cells(told):
            return False
        low, high = bounds_of(told[1])
        return any(low < behind and first < high for first, behind in rooms)

    def test_drawn_ones(self):
        done = struck = 0
        for seed in range(400, 600):
            machine, chance = drawn_machine(seed, hands=False)
            noted = []
            given = 0
            while machine.told() is None and machine.steps() < STEPS:
                machine.run(chance.randrange(6))
                for _, low, high in machine.given()[given:]:
                    self.assertFalse(any(low < behind and first < high for first, behind in noted))
                given = len(machine.given())
                if machine.swept() is None:
                    noted = machine.taken()
                    machine.begin_sweep()
                if machine.sweep(chance.choice((10, 100, 1000, 4096))):
                    held = machine.boxes() + machine.shelf_words() + words_in_cells(machine)
                    self.assertFalse(any(self.leads_into(told, noted) for told in held))
                    struck += any(self.leads_into((True, told[1]), noted) for told in held)
                    self.assertFalse([bounds for bounds in noted if bounds in machine.taken()])
                    noted = []
                    done += 1
        self.assertGreater(done, 500)
        self.assertGreater(struck, 100)


if __name__ == "__main__":
    unittest.main()
