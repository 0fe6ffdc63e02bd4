"""Calls: gates, what the shelf keeps, the stack handed on, coming back, and faults."""

import unittest

import plainly
from made import FAULTS, NOUGHT, all_told, cells_of, marked_cells, rows_of, two
from plainly import word
from sealedreach.machine import Machine

STACK = (20, 84)
A_CELLS, B_CELLS = word(16, 18, rights="rwlsf"), word(18, 20, rights="rwlsf")
EXACT = plainly.tellable()
GATE = "load 0 7 1; call 0"


def stack(low, high, at=None):
    return word(low, high, high if at is None else at, "rwlsn")


class Calls(unittest.TestCase):
    def called(self, begins, other="back", **others):
        """A machine behind all rows of the one that begins, the last of which calls."""
        machine = two(begins, other, **others)
        machine.run(len(rows_of(begins)))
        self.assertIsNone(machine.told())
        self.assertEqual(machine.depth(), 1, begins)
        return machine

    def test_boxes(self):
        words = "set 1 1; set 2 2; set 3 3; set 4 4; set 5 5; "
        machine = self.called(words + GATE)
        gate = word(7, 8, rights="fx", kind=2)
        begun = two(words + GATE, "back")
        self.assertEqual(begun.own_words()[1][0], word(7, 8, rights="fx"))
        self.assertEqual(machine.boxes(), [gate, (False, 1), (False, 2), (False, 3), NOUGHT,
                                           NOUGHT, stack(*STACK), B_CELLS])
        self.assertEqual(machine.row_word(), word(7, 8, rights="fx"))
        self.assertEqual(machine.touches(), [("a", "read", 17)])

    def test_marked_words_in_boxes_0_to_3_are_handed_over(self):
        machine = self.called("move 1 7; move 2 6; here 3; " + GATE)
        self.assertEqual(machine.boxes()[1:4], [A_CELLS, stack(*STACK), word(0, 5, 3, "fx")])

    def test_what_the_shelf_keeps(self):
        machine = self.called("set 2 2; move 3 7; set 4 4; here 5; walk 6 #4094; " + GATE)
        self.assertEqual(machine.shelf_words(), [
            word(0, 7, 7, "fx"), (False, 2), A_CELLS, (False, 4), word(0, 7, 4, "fx"),
            stack(20, 84, 82), A_CELLS])

    def test_a_door_farther_on_and_its_own_compartment(self):
        rows = rows_of("load 0 7 1; call 0; back; set 0 9; back")
        machine = Machine([("a", rows, (3,), 2, (("a", 0),))], "a")
        machine.run(2)
        self.assertEqual(machine.row_word(), word(0, 5, 3, "fx"))
        self.assertEqual(machine.boxes()[7], word(16, 18, rights="rwlsf"))
        self.assertEqual(machine.run(2), None)
        self.assertEqual(machine.row_word(), word(0, 5, 2, "fx"))
        self.assertEqual(machine.run(1), ("end", (False, 9)))

    def test_gates_with_other_rights(self):
        for rights in ("", "f", "x", "fx", "rw", "co"):
            machine = two("call 0", "set 5 8; here 4; back",
                          hands={0: word(1, 4, 2, rights, 2)})
            machine.step()
            self.assertEqual((machine.depth(), machine.boxes()[7]), (1, B_CELLS))
            self.assertEqual(machine.row_word(), word(1, 4, 2, rights))
            machine.step()
            self.assertEqual(machine.boxes()[4], word(1, 4, 3, rights))

    def test_a_gate_to_no_row(self):
        for at in (0, 2, 4095):
            machine = two("call 0", "back", hands={0: word(1, 2, at, "fx", 2)})
            machine.step()
            self.assertEqual((machine.depth(), machine.row_word()), (1, word(1, 2, at, "fx")))
            machine.step()
            self.assertEqual(machine.depth(), 0)
            self.assertEqual(machine.boxes()[:2], [NOUGHT, (False, 7)])


class Stacks(Calls):
    def test_the_part_handed_on(self):
        for at in range(21, 85):
            machine = self.called(f"walk 6 #{4096 + at - 84}; " + GATE)
            high = max(to for to in range(21, at + 1) if (20, to) in EXACT)
            self.assertEqual(machine.boxes()[6], stack(20, high))
            self.assertEqual(machine.shelf_words()[5], stack(20, 84, at))

    def test_stacks_of_1_and_of_256(self):
        machine = self.called(GATE, stack=1)
        self.assertEqual(machine.boxes()[6], stack(20, 21))
        machine = self.called(GATE, stack=256)
        self.assertEqual(machine.boxes()[6], stack(32, 288))
        machine = self.called("walk 6 #4095; " + GATE, stack=256)
        self.assertEqual(machine.boxes()[6], stack(32, 272))

    def test_a_narrowed_stack(self):
        machine = self.called("walk 6 #4086; narrow 6 #4; walk 6 #3; " + GATE)
        self.assertEqual(machine.boxes()[6], stack(74, 77))

    def test_cells_of_the_part_are_cleared(self):
        begins = ("store 6 -1 7; store 6 -2 7; store 6 -5 7; store 6 -8 6; set 0 9; "
                  "store 6 -3 0; walk 6 #4092; ") + GATE
        machine = self.called(begins)
        self.assertEqual(machine.boxes()[6], stack(20, 80))
        kept = {83: A_CELLS, 82: A_CELLS, 81: (False, 9)}
        for address in range(20, 84):
            self.assertEqual(machine.cell(address), kept.get(address, NOUGHT))

    def test_of_what_the_called_one_leaves_nothing_stays(self):
        machine = two("walk 6 #4092; store 6 0 7; " + GATE, "store 6 -1 7; store 6 -8 6; "
                      "set 5 5; store 6 -7 5; back", many=2)
        machine.run(8)
        self.assertEqual([machine.cell(address)[0] for address in (79, 72)], [True, True])
        self.assertEqual(machine.cell(73), (False, 5))
        machine.run(1)
        self.assertEqual(machine.depth(), 0)
        for address in range(20, 84):
            self.assertEqual(machine.cell(address), A_CELLS if address == 80 else NOUGHT)

    def test_likewise_where_it_faults(self):
        machine = two("walk 6 #4092; store 6 0 7; " + GATE, "store 6 -1 7; store 6 -8 6; give 5")
        machine.run(7)
        self.assertEqual(machine.depth(), 0)
        for address in range(20, 84):
            self.assertEqual(machine.cell(address), A_CELLS if address == 80 else NOUGHT)


class Faults(unittest.TestCase):
    def faults(self, fault, begins, hands=None, stack_of=64):
        """The last row of the one that begins calls in vain, and changes nothing."""
        machine = two(begins, "back", hands, stack=stack_of)
        machine.run(len(rows_of(begins)) - 1)
        self.assertIsNone(machine.told())
        before = all_told(machine)
        machine.step()
        self.assertEqual(machine.told(), ("fault", fault), begins)
        self.assertEqual(all_told(machine), before)

    def test_mark(self):
        self.faults("mark", "call 0")
        self.faults("mark", "load 0 7 1; plus 0 #0; call 0")
        self.faults("mark", "call 0", {0: (False, word(1, 2, rights="fx", kind=2)[1])})
        self.faults("mark", "set 6 0; call 0")

    def test_gate(self):
        for kind in range(16):
            if kind != 2:
                self.faults("gate", "call 0", {0: word(1, 2, rights="fx", kind=kind)})
        for low, high in ((0, 2), (2, 3), (1, 3), (0, 16)):
            self.faults("gate", "call 0", {0: word(low, high, rights="fx", kind=2)})
        self.faults("gate", "call 7")
        self.faults("gate", "set 6 0; call 7")

    def test_stack(self):
        gate = "load 0 7 1; "
        for text in ("set 6 0; ", "move 6 7; ", "walk 6 #1; ", "walk 6 #4032; ", "walk 6 #4000; ",
                     "less 6 rwls; ", "less 6 rwln; ", "less 6 -; ", "plus 6 #0; ",
                     "load 1 7 0; seal 6 1; ", "walk 6 #4086; narrow 6 #4; ",
                     "walk 6 #4086; narrow 6 #4; walk 6 #4095; ",
                     "walk 6 #4086; narrow 6 #4; walk 6 #5; ", "move 6 0; ", "here 6; "):
            self.faults("stack", gate + text + "call 0")
        self.faults("stack", gate + "walk 6 #4095; call 0", stack_of=1)

    def test_rights_of_a_stack_are_just_rwlsn(self):
        for rights in ("rwlsf", "rwls", "rwlf", "r"):
            held = word(16, 18, 18, rights)
            self.faults("stack", "load 0 7 1; move 6 1; call 0", {1: held})

    def test_a_stack_that_is_none(self):
        """Without the rule `less` a program makes a word that is one but for its bounds."""
        machine = Machine([("a", rows_of("load 0 7 1; less 7 rwlsn; walk 7 #2; move 6 7; call 0"),
                            (0,), 2, (("a", 0),))], "a", without="less")
        self.assertEqual(machine.run(9), ("fault", "stack"))

    def test_a_stack_that_reaches_out(self):
        """Without the rule `narrow` a program makes a word that leads beyond the stack."""
        for many, fault in ((4, None), (5, ("fault", "stack")), (16, ("fault", "stack"))):
            rows = rows_of(f"load 0 7 1; walk 6 #4092; narrow 6 #{many}; walk 6 #1; call 0")
            machine = Machine([("a", rows, (0,), 4, (("a", 0),))], "a", without="narrow")
            self.assertEqual(machine.run(5), fault)

    def test_deep(self):
        machine = two(GATE + "; back", "load 0 7 1; call 0; back")
        machine.run(16)
        self.assertEqual(machine.depth(), 8)
        machine.run(1)
        self.assertEqual(machine.depth(), 8)
        before = machine.shelf_words()
        self.assertEqual(len(before), 56)
        machine.run(1)
        self.assertEqual(machine.depth(), 7)
        self.assertEqual(machine.shelf_words(), before[:49])
        self.assertEqual(machine.boxes()[:2], [NOUGHT, (False, 10)])
        self.assertIsNone(machine.run(7))
        self.assertEqual((machine.depth(), machine.steps()), (0, 25))
        self.assertEqual(machine.run(1), ("end", NOUGHT))

    def test_the_first_one_due(self):
        self.faults("mark", "set 6 0; set 0 5; call 0")
        self.faults("gate", "set 6 0; call 7")
        rows = rows_of("load 0 7 1; plus 3 #1; jump under 3 #9 4; set 6 0; call 0")
        machine = Machine([("a", rows, (0,), 2, (("a", 0),))], "a")
        machine.run(8 * 4)
        self.assertEqual(machine.depth(), 8)
        machine.run(5)
        self.assertEqual(machine.depth(), 7)
        self.assertEqual(machine.boxes()[1], (False, FAULTS.index("stack") + 1))


class Backs(unittest.TestCase):
    BEGINS = "set 1 1; set 2 2; move 3 7; here 4; set 5 5; walk 6 #4092; " + GATE + "; back"

    def test_back(self):
        machine = two(self.BEGINS, "set 0 70; set 1 71; set 2 72; set 3 73; set 4 74; set 5 75; "
                      "set 6 76; set 7 77; back")
        machine.run(8)
        kept = machine.shelf_words()
        machine.run(9)
        self.assertEqual(machine.depth(), 0)
        self.assertEqual(machine.boxes(), [(False, 70), NOUGHT] + kept[1:])
        self.assertEqual(machine.boxes()[2:], [(False, 2), A_CELLS, word(0, 9, 4, "fx"), (False, 5),
                                               stack(20, 84, 80), A_CELLS])
        self.assertEqual(machine.row_word(), kept[0])
        self.assertEqual(machine.row_word(), word(0, 9, 8, "fx"))
        self.assertEqual(machine.shelf_words(), [])
        self.assertEqual(machine.run(1), ("end", (False, 70)))

    def test_a_marked_answer(self):
        machine = two(self.BEGINS, "move 0 7; move 1 7; back")
        machine.run(11)
        self.assertEqual(machine.boxes()[:2], [B_CELLS, NOUGHT])

    def test_a_fault_in_a_call(self):
        deeds = {"mark": "set 1 1; load 0 1 0", "seal": "load 1 7 0; seal 7 1; load 0 7 0",
                 "right": "less 7 w; load 0 7 0", "bounds": "load 0 7 9",
                 "store": "move 1 7; less 1 rw; store 1 0 7", "near": "store 7 0 6",
                 "rows": "go 4000", "gate": "call 7", "stack": "load 1 7 1; set 6 0; call 1",
                 "room": "give 7"}
        for fault, text in deeds.items():
            machine = two(self.BEGINS, text)
            machine.run(8)
            kept = machine.shelf_words()
            while machine.depth() == 1:
                machine.step()
            self.assertEqual(machine.boxes(), [NOUGHT, (False, FAULTS.index(fault) + 1)] + kept[1:])
            self.assertEqual(machine.row_word(), kept[0])
            self.assertIsNone(machine.told())
            steps = 8 + len(rows_of(text)) + (fault == "rows")
            self.assertEqual(machine.steps(), steps)
            self.assertEqual(machine.run(1), ("end", NOUGHT))

    def test_a_fault_where_no_call_stands_any_more(self):
        machine = two(GATE + "; give 0", "set 0 5; back")
        self.assertEqual(machine.run(9), ("fault", "room"))
        self.assertEqual(machine.boxes()[:2], [(False, 5), NOUGHT])

    def test_a_fault_ends_the_last_call_alone(self):
        rows = {"a": "load 0 7 1; call 0; back", "b": "load 0 7 1; call 0; set 0 5; back",
                "c": "give 0; back"}
        machine = Machine([("a", rows_of(rows["a"]), (), 2, (("b", 0),)),
                           ("b", rows_of(rows["b"]), (0,), 2, (("c", 0),)),
                           ("c", rows_of(rows["c"]), (0,), 1, ())], "a")
        machine.run(4)
        self.assertEqual(machine.depth(), 2)
        machine.run(1)
        self.assertEqual(machine.depth(), 1)
        self.assertEqual(machine.boxes()[:2], [NOUGHT, (False, 11)])
        self.assertEqual(machine.boxes()[7], machine.own_words()[1][1])
        self.assertEqual(machine.run(9), ("end", (False, 5)))

    def test_the_elder_call_first(self):
        machine = two("set 5 1; " + GATE, "set 5 2; load 0 7 1; call 0")
        machine.run(6)
        told = machine.shelf_words()
        self.assertEqual((machine.depth(), len(told)), (2, 14))
        self.assertEqual([told[4], told[11]], [(False, 1), (False, 2)])
        self.assertEqual([told[6], told[13]], [A_CELLS, B_CELLS])

    def test_the_used_stack_stays(self):
        """What lies from the part's high on stays, through calls, faults, and calls of the called."""
        begins = "store 6 -1 7; store 6 -2 6; set 1 8; store 6 -3 1; walk 6 #4093; " + GATE + "; back"
        for text in ("set 5 5; store 6 -1 5; store 6 -2 7; back", "store 6 0 7", "store 6 1 7",
                     "walk 6 #1; load 0 7 1; call 0", "load 0 7 1; store 6 -1 7; walk 6 #4095; call 0"):
            machine = two(begins, text)
            machine.run(5)
            before = cells_of(machine)
            machine.run(2)
            limit = 0
            while machine.depth() > 0 and limit < 200:
                machine.step()
                limit += 1
            self.assertEqual(machine.depth(), 0)
            self.assertEqual(cells_of(machine)[81:], before[81:])
            self.assertEqual(cells_of(machine)[80:81], before[80:81])
            self.assertEqual(machine.boxes()[6], stack(20, 84, 81))

    def test_the_called_one_cant_reach_the_used_stack(self):
        machine = two("store 6 -1 7; walk 6 #4092; " + GATE + "; back",
                      "load 0 6 3; back")
        machine.run(5)
        self.assertEqual(machine.boxes()[:2], [NOUGHT, (False, 4)])

    def test_sealed_words_pass_and_come_back(self):
        begins = ("load 2 7 0; move 1 7; seal 1 2; " + GATE + "; open 0 2; load 3 0 0; back")
        machine = two(begins, "move 0 1; back")
        machine.run(8)
        self.assertEqual(machine.boxes()[0], A_CELLS)
        machine = two(begins, "load 0 1 0; back")
        machine.run(6)
        self.assertEqual(machine.boxes()[:2], [NOUGHT, (False, 2)])
        self.assertEqual(len(marked_cells(machine)), 4)


if __name__ == "__main__":
    unittest.main()
