import random
import unittest

import plainly
from plainly import word
from sealedreach.cells import Cells
from sealedreach.errors import NoCompartment, NoNumber, ReachError
from sealedreach.loader import STACK, loaded
from sealedreach.words import fields_of

EXACT = plainly.tellable()
LETTERS = "abcdefgh"
NO_NUMBERS = [0, -1, 257, 4096, 10 ** 29, -10 ** 29, "", "64", (64,)]


def named(name, rows=1, doors=(0,), many=1, uses=()):
    return name, [("go", k) for k in range(rows)], doors, many, uses


def size_of(many):
    """The cells of the room of so many, worked out as point 6 says."""
    step = 0
    while 16 * 2 ** step < many:
        step += 1
    while many % 2 ** step != 0:
        many += 1
    return many


def rooms_behind(start, numbers):
    """Rooms of so many, each from the least address on from which it is told exactly."""
    told = []
    for many in numbers:
        low = start
        while (low, low + size_of(many)) not in EXACT:
            low += 1
        start = low + size_of(many)
        told.append((low, start))
    return told


def some_compartments(chance):
    """Compartments by chance, with doors and uses."""
    many = chance.randint(1, 8)
    made = []
    for name in LETTERS[:many]:
        rows = chance.choice((1, 2, 15, 16, 17, 31, 32, 33, 63, 64, chance.randint(1, 64)))
        doors = sorted(chance.sample(range(rows), min(rows, chance.randint(0, 5))))
        cells = chance.choice((1, 2, 16, 17, 33, 64, chance.randint(1, 64)))
        made.append((name, rows, tuple(doors), cells))
    all_doors = [(name, k) for name, _, doors, _ in made for k in range(len(doors))]
    told = []
    for name, rows, doors, cells in made:
        uses = chance.choices(all_doors, k=chance.randint(0, cells - 1)) if all_doors else []
        told.append(named(name, rows, doors, cells, tuple(uses)))
    return told


class Layout(unittest.TestCase):
    def check(self, compartments, stack):
        told = loaded(compartments, stack=stack)
        rows_at = rooms_behind(0, [len(one[1]) for one in compartments])
        *cells_at, stack_at = rooms_behind(16, [one[3] for one in compartments] + [stack])
        self.check_words(told, compartments, rows_at, cells_at)
        self.check_cells(told, compartments, rows_at, cells_at)
        self.assertEqual(told["stack"], stack_at)
        least = min(low for low in range(0, 4097, 16) if low >= stack_at[1])
        self.assertEqual(told["heap"], (least, 4096))
        rows = {rows_at[k][0] + number: row for k, one in enumerate(compartments)
                for number, row in enumerate(one[1])}
        self.assertEqual(told["rows"], rows)
        return told

    def check_words(self, told, compartments, rows_at, cells_at):
        wanted = {}
        for k, one in enumerate(compartments):
            wanted[one[0]] = (word(*rows_at[k], rights="fx"), word(*cells_at[k], rights="rwlsf"),
                              word(3 + k, 4 + k, rights="fco"))
        self.assertEqual(told["words"], wanted)
        self.assertEqual(list(told["words"]), [one[0] for one in compartments])

    def check_cells(self, told, compartments, rows_at, cells_at):
        numbers = {one[0]: k for k, one in enumerate(compartments)}
        wanted = Cells()
        for k, one in enumerate(compartments):
            wanted.lay(cells_at[k][0], word(3 + k, 4 + k, rights="fco"))
            for number, (name, door) in enumerate(one[4]):
                used = numbers[name]
                at = rows_at[used][0] + compartments[used][2][door]
                wanted.lay(cells_at[k][0] + 1 + number, word(*rows_at[used], at, "fx", 2))
        self.assertTrue(told["cells"] == wanted)

    def test_by_chance(self):
        chance = random.Random(3)
        for _ in range(120):
            self.check(some_compartments(chance), chance.randint(1, 256))

    def test_one_compartment_of_each_size(self):
        for many in range(1, 65):
            self.check([named("a", rows=many, many=many)], 64)

    def test_each_stack(self):
        for stack in range(1, 257):
            told = self.check([named("a", many=7)], stack)
            self.assertEqual(told["stack"][1] - told["stack"][0], size_of(stack))

    def test_eight_of_the_greatest(self):
        told = self.check([named(name, 64, (63,), 64, (("a", 0),) * 63) for name in LETTERS], 256)
        self.assertEqual(told["stack"], (528, 784))
        self.assertEqual(told["heap"], (784, 4096))
        self.assertEqual(len(told["rows"]), 512)

    def test_all_before_each_size(self):
        for ahead in range(1, 65):
            for behind in (1, 16, 17, 33, 64):
                self.check([named("a", ahead, (), ahead), named("b", behind, (), behind)], 33)


class Told(unittest.TestCase):
    def test_told_one(self):
        told = loaded([named("main", 17, (0, 5), 3, (("side", 0), ("main", 1))),
                       named("side", 33, (32,), 17)])
        self.assertEqual(sorted(told), ["cells", "heap", "rows", "stack", "words"])
        self.assertEqual(told["words"], {
            "main": (word(0, 18, 0, "fx"), word(16, 19, 16, "rwlsf"), word(3, 4, 3, "fco")),
            "side": (word(20, 56, 20, "fx"), word(20, 38, 20, "rwlsf"), word(4, 5, 4, "fco"))})
        self.assertEqual((told["stack"], told["heap"]), ((40, 104), (112, 4096)))
        cells = told["cells"]
        self.assertEqual(cells.marked(), [16, 17, 18, 20])
        self.assertEqual(cells.cell(16), word(3, 4, 3, "fco"))
        self.assertEqual(cells.cell(17), word(20, 56, 52, "fx", 2))
        self.assertEqual(cells.cell(18), word(0, 18, 5, "fx", 2))
        self.assertEqual(cells.cell(20), word(4, 5, 4, "fco"))
        self.assertEqual(sorted(told["rows"]), list(range(17)) + list(range(20, 53)))
        self.assertEqual(told["rows"][16], ("go", 16))
        self.assertEqual(told["rows"][20], ("go", 0))
        self.assertEqual(told["rows"][52], ("go", 32))

    def test_what_is_left_of_a_room_has_no_rows(self):
        told = loaded([named("a", 17), named("b", 1)])
        self.assertEqual(sorted(told["rows"]), list(range(17)) + [18])

    def test_kinds_of_what_is_told(self):
        told = loaded([named("a")])
        self.assertIsInstance(told, dict)
        self.assertIsInstance(told["rows"], dict)
        self.assertIsInstance(told["cells"], Cells)
        self.assertIsInstance(told["words"], dict)
        self.assertIsInstance(told["words"]["a"], tuple)
        for name in ("stack", "heap"):
            self.assertIsInstance(told[name], tuple)

    def test_stack_of_64_if_none_is_told(self):
        self.assertEqual(STACK, 64)
        told = loaded([named("a")])
        self.assertEqual((told["stack"], told["heap"]), ((20, 84), (96, 4096)))
        self.assertEqual(loaded([named("a")], stack=64)["stack"], (20, 84))

    def test_stack_of_1_and_of_256(self):
        told = loaded([named("a")], stack=1)
        self.assertEqual((told["stack"], told["heap"]), ((17, 18), (32, 4096)))
        told = loaded([named("a")], stack=256)
        self.assertEqual((told["stack"], told["heap"]), ((32, 288), (288, 4096)))

    def test_heap_right_behind_the_stack(self):
        self.assertEqual(loaded([named("a", many=16)], stack=16)["heap"], (48, 4096))
        self.assertEqual(loaded([named("a", many=16)], stack=15)["heap"], (48, 4096))
        self.assertEqual(loaded([named("a", many=16)], stack=17)["heap"], (64, 4096))

    def test_seal_words_of_eight(self):
        told = loaded([named(name) for name in LETTERS])
        for k, name in enumerate(LETTERS):
            self.assertEqual(fields_of(told["words"][name][2]), (3 + k, 4 + k, 3 + k, "fco", 0))

    def test_a_door_used_twice_and_of_one_farther_on(self):
        told = loaded([named("a", 1, (), 4, (("b", 1), ("b", 1), ("b", 0))), named("b", 9, (2, 8))])
        gates = [told["cells"].cell(at) for at in (17, 18, 19)]
        self.assertEqual(gates, [word(1, 10, 9, "fx", 2)] * 2 + [word(1, 10, 3, "fx", 2)])

    def test_no_doors_and_no_uses(self):
        told = loaded([named("a", 5, (), 9)])
        self.assertEqual(told["cells"].marked(), [16])


class Refused(unittest.TestCase):
    def refuse(self, error, compartments, **named_ones):
        with self.assertRaises(error) as caught:
            loaded(compartments, **named_ones)
        self.assertIsInstance(caught.exception, ReachError)
        return caught.exception

    def test_no_compartments(self):
        for thing, number, part in [
                ([], None, None), (None, None, None), ((named("a"),), None, None),
                ([None], 0, "form"), ([named("")], 0, "name"), ([named("a", 0)], 0, "rows"),
                ([named("a"), named("a")], 1, "name"), ([named("a", doors=(1,))], 0, "doors"),
                ([named("a", many=0)], 0, "many"), ([named("a", uses=(("a", 0),))], 0, "uses"),
                ([named("a", many=2, uses=(("b", 0),)), None], 1, "form"),
                ([named(sign) for sign in "abcdefghi"], None, None)]:
            for named_ones in ({}, {"stack": 64}, {"stack": 0}, {"stack": None}):
                told = self.refuse(NoCompartment, thing, **named_ones)
                self.assertEqual((told.number, told.part), (number, part))
        for thing in plainly.odd_things():
            self.refuse(NoCompartment, thing, stack=plainly.Odd())

    def test_no_stack(self):
        for thing in NO_NUMBERS + plainly.odd_things():
            self.refuse(NoNumber, [named("a")], stack=thing)


class HandedIn(unittest.TestCase):
    def test_by_names(self):
        told = loaded(stack=9, compartments=[named("a")])
        self.assertEqual(told["stack"], (17, 26))
        self.assertEqual(loaded([named("a")], stack=plainly.Counted(9))["stack"], (17, 26))

    def test_stack_by_its_name_alone(self):
        self.assertRaises(TypeError, loaded, [named("a")], 9)

    def test_what_is_handed_in_stays_and_is_not_kept(self):
        rows = [("go", 0), ("back",)]
        held = [("a", rows, (0,), 1, ())]
        told = loaded(held)
        self.assertEqual(held, [("a", [("go", 0), ("back",)], (0,), 1, ())])
        rows.append(None)
        held.append(5)
        self.assertEqual(told["rows"], {0: ("go", 0), 1: ("back",)})
        told["rows"].clear()
        told["words"].clear()
        told["cells"].clear(0, 4096)
        self.assertEqual(rows, [("go", 0), ("back",), None])

    def test_asked_twice_told_alike_and_new(self):
        held = [named("a", 3, (1,), 2, (("a", 0),)), named("b")]
        one, other = loaded(held), loaded(held)
        self.assertTrue(one == other)
        for name in ("rows", "words"):
            one[name].clear()
        one["cells"].clear(0, 4096)
        one["stack"] = None
        self.assertTrue(other == loaded(held))
        self.assertEqual(other["cells"].marked(), [16, 17, 18])


if __name__ == "__main__":
    unittest.main()
