"""How a machine is made, what it tells, its twins, and which ones are alike."""

import unittest

import plainly
from made import NOUGHT, OWN, STACK, all_told, done, one, two
from plainly import bits_with, word
from sealedreach.errors import (
    NoAddress, NoCompartment, NoHands, NoName, NoNumber, NoRule, NoSweep, ReachError, Sweeping)
from sealedreach.machine import Machine
from sealedreach.rules import RULES

BACK = [("back",)]
NO_STACKS = [0, -1, 257, 4096, 10 ** 29, -10 ** 29, "", "64", (64,)]
NO_STEPS = [-1, -10 ** 29, "", "5", (5,)]
NO_ADDRESSES = [-1, 4096, 10 ** 29, "", "5", (5,)]
NO_RULES = ["", "Poke", "poke ", "pok", "pokes", "room", "all", 0, 5, ("poke",), ["poke"]]
NO_NAMES = ["", "c", "A", "a ", "ab", "aa", 0, ("a",), ["a"], "a" * 6000]


def named(name, rows=BACK, doors=(0,), many=1, uses=()):
    return name, list(rows), doors, many, uses


class AtFirst(unittest.TestCase):
    def test_boxes(self):
        machine = one("back")
        self.assertEqual(machine.boxes(), [NOUGHT] * 6
                         + [word(*STACK, 84, "rwlsn"), word(*OWN, rights="rwlsf")])
        self.assertEqual(machine.row_word(), word(0, 1, rights="fx"))

    def test_of_the_one_that_begins(self):
        for begin, own, rows in (("a", (16, 18), (0, 2)), ("b", (18, 35), (2, 3))):
            machine = Machine([named("a", BACK * 2, many=2), named("b", many=17)], begin)
            self.assertEqual(machine.boxes()[7], word(18, 36, rights="rwlsf") if begin == "b"
                             else word(*own, rights="rwlsf"))
            self.assertEqual(machine.row_word(), word(*rows, rights="fx"))
            self.assertEqual(machine.boxes()[6], word(36, 100, 100, "rwlsn"))

    def test_nothing_came_yet(self):
        machine = one("back")
        self.assertEqual((machine.depth(), machine.steps()), (0, 0))
        self.assertIsNone(machine.told())
        self.assertIsNone(machine.swept())
        for told in (machine.shelf_words(), machine.touches(), machine.standing(),
                     machine.taken(), machine.given()):
            self.assertEqual(told, [])

    def test_cells(self):
        machine = two("back", "back")
        marked = {16: word(3, 4, rights="fco"), 17: word(1, 2, rights="fx", kind=2),
                  18: word(4, 5, rights="fco"), 19: word(0, 1, rights="fx", kind=2)}
        for address in range(4096):
            self.assertEqual(machine.cell(address), marked.get(address, NOUGHT))

    def test_own_words(self):
        self.assertEqual(two("back", "back").own_words(),
                         [(word(0, 1, rights="fx"), word(16, 18, rights="rwlsf")),
                          (word(1, 2, rights="fx"), word(18, 20, rights="rwlsf"))])

    def test_hands(self):
        handed = {0: (False, 5), 2: word(0, 16, 9, "rwlsf"), 5: word(0, 256, rights="fx", kind=2),
                  3: word(20, 36, rights="", kind=4), 4: word(20, 36, rights="f")}
        machine = one("back", handed)
        self.assertEqual(machine.boxes()[:6], [handed.get(box, NOUGHT) for box in range(6)])
        self.assertEqual(machine.boxes()[6:], one("back").boxes()[6:])
        for hands in ({}, None):
            self.assertTrue(one("back", hands) == one("back"))

    def test_hands_up_to_the_stack_and_between(self):
        for low, high in ((0, 16), (16, 20), (18, 20), (84, 96), (84, 85), (95, 96)):
            for kind in (0, 5):
                held = word(low, high, rights="rwls", kind=kind)
                self.assertEqual(one("back", {1: held}).boxes()[1], held)

    def test_stacks_of_1_and_of_256(self):
        for stack, low, high, heap in ((1, 20, 21, 32), (256, 32, 288, 288), (17, 20, 38, 48)):
            machine = one("room 0 #1", stack=stack)
            self.assertEqual(machine.boxes()[6], word(low, high, high, "rwlsn"))
            machine.step()
            self.assertEqual(machine.standing(), [(heap, heap + 1)])

    def test_each_rule_may_be_left_out(self):
        self.assertEqual(len(RULES), 11)
        for rule in RULES:
            self.assertEqual(one("set 0 5; back", without=rule).run(2), ("end", (False, 5)))
        self.assertEqual(one("set 0 5; back", without=None).run(2), ("end", (False, 5)))


class Refused(unittest.TestCase):
    def refuse(self, error, *places, **named_ones):
        with self.assertRaises(error) as caught:
            Machine(*places, **named_ones)
        self.assertIs(caught.exception.__class__, error)
        return caught.exception

    def test_no_compartments(self):
        for thing, number, part in [
                ([], None, None), (None, None, None), ((named("a"),), None, None),
                ([None], 0, "form"), ([named("")], 0, "name"), ([named("a", [])], 0, "rows"),
                ([named("a"), named("a")], 1, "name"), ([named("a", doors=(1,))], 0, "doors"),
                ([named("a", many=65)], 0, "many"), ([named("a", uses=(("a", 0),))], 0, "uses")]:
            told = self.refuse(NoCompartment, thing, "a")
            self.assertEqual((told.number, told.part), (number, part))
        for thing in plainly.odd_things():
            self.refuse(NoCompartment, thing, plainly.Odd(), stack=0, hands=0, without=0)

    def test_no_name(self):
        for thing in NO_NAMES + plainly.odd_things():
            told = self.refuse(NoName, [named("a"), named("b")], thing)
            self.assertIs(told.name, thing)
            self.assertNotIsInstance(told, ReachError)
            self.refuse(NoName, [named("a"), named("b")], thing, stack=0, hands=0, without=0)

    def test_no_stack(self):
        for thing in NO_STACKS + plainly.odd_things():
            self.refuse(NoNumber, [named("a")], "a", stack=thing)
            self.refuse(NoNumber, [named("a")], "a", stack=thing, hands=0, without=0)

    def test_no_hands(self):
        near = word(0, 5, rights="n")
        for thing in [{6: NOUGHT}, {-1: NOUGHT}, {"0": NOUGHT}, {(0,): NOUGHT}, {None: NOUGHT},
                      {True: NOUGHT}, {False: NOUGHT}, {10 ** 29: NOUGHT}, {7: NOUGHT},
                      {0: None}, {0: 5}, {0: (True, 2 ** 45 - 1)}, {0: (False, 2 ** 45)},
                      {0: (True, bits_with(rights="rx"))}, {0: plainly.Odd()}, {0: [False, 0]},
                      {0: near}, {0: word(0, 5, rights="rwlsnf")}, {5: word(0, 5, rights="n", kind=4)},
                      {0: NOUGHT, 1: near}, {0: NOUGHT, 6: NOUGHT}, {0: NOUGHT, 1: 5},
                      [NOUGHT], (NOUGHT,), [(0, NOUGHT)], 0, "", "0", NOUGHT]:
            self.refuse(NoHands, [named("a")], "a", hands=thing)
            self.refuse(NoHands, [named("a")], "a", hands=thing, without=0)
        for thing in plainly.odd_things():
            if thing is not None and thing.__class__ is not dict:
                self.refuse(NoHands, [named("a")], "a", hands=thing)
            self.refuse(NoHands, [named("a")], "a", hands={0: thing})
        self.refuse(NoHands, [named("a")], "a", hands={"low": 0})

    def test_no_hands_to_stack_or_heap(self):
        for low, high in [STACK, (20, 21), (83, 84), (10, 21), (83, 90), (96, 97), (95, 97),
                          (256, 4096), (4095, 4096), (0, 4096), (88, 104)]:
            for rights in ("r", "w", "l", "s", "rwlsf"):
                for kind in (0, 1, 2, 9):
                    held = word(low, high, rights=rights, kind=kind)
                    with self.assertRaises(NoHands):
                        one("back", {0: held})
                    one("back", {0: (False, held[1])})
            for rights in ("", "f", "fx", "co"):
                one("back", {0: word(low, high, rights=rights)})

    def test_no_rule(self):
        for thing in NO_RULES + [thing for thing in plainly.odd_things() if thing is not None]:
            self.refuse(NoRule, [named("a")], "a", without=thing)


class HandedIn(unittest.TestCase):
    def test_by_names(self):
        machine = Machine(without="poke", hands={0: (False, 9)}, stack=16, begin="b",
                          compartments=[named("a"), named("b")])
        self.assertEqual(machine.boxes()[0], (False, 9))
        self.assertEqual(machine.boxes()[6], word(18, 34, 34, "rwlsn"))
        self.assertEqual(machine.cell(address=16), word(3, 4, rights="fco"))
        self.assertEqual(machine.run(most=1), ("end", (False, 9)))
        machine.begin_sweep()
        self.assertIs(machine.sweep(many=4096), True)

    def test_behind_the_star_by_names_alone(self):
        for places in ((64,), (64, None), (64, None, None)):
            with self.assertRaises(TypeError):
                Machine([named("a")], "a", *places)

    def test_what_is_handed_in_stays_and_is_not_kept(self):
        rows = [("set", 0, 5), ("back",)]
        held = [("a", rows, (0,), 2, (("a", 0),))]
        hands = {1: (False, 4)}
        machine = Machine(held, "a", hands=hands)
        fresh = machine.twin()
        rows[0] = ("set", 0, 6)
        rows.append(None)
        held.append(None)
        hands[1] = None
        hands[9] = None
        self.assertTrue(machine.twin() == fresh)
        for one_of in (machine, fresh, machine.twin()):
            self.assertEqual(one_of.run(9), ("end", (False, 5)))
            self.assertEqual(one_of.boxes()[1], (False, 4))
        self.assertEqual(rows, [("set", 0, 6), ("back",), None])

    def test_what_is_told_is_new(self):
        machine = two("room 2 #3; room 3 #3; give 3; store 2 0 2; load 0 7 1; call 0",
                      "load 0 7 0; back")
        machine.run(7)
        before, twin = all_told(machine), machine.twin()
        self.assertTrue(all(before[name] for name in ("boxes", "shelf", "own", "touches",
                                                      "standing", "taken", "given")))
        for told in (machine.boxes(), machine.shelf_words(), machine.own_words(),
                     machine.touches(), machine.standing(), machine.taken(), machine.given()):
            self.assertIsInstance(told, list)
            told[0] = None
            told.append(5)
            del told[0]
        self.assertEqual(all_told(machine), before)
        self.assertTrue(machine == twin)

    def test_what_was_told_stays(self):
        machine = one("room 2 #3; store 2 0 2; give 2; set 0 1")
        told = [machine.boxes(), machine.touches(), machine.standing(), machine.taken(),
                machine.given()]
        machine.run(9)
        self.assertEqual(told, [one("back").boxes(), [], [], [], []])


class Runs(unittest.TestCase):
    def test_so_many_steps(self):
        machine = one("plus 0 #1; go 0")
        for many, steps in ((0, 0), (1, 1), (3, 4), (0, 4), (100, 104)):
            self.assertIsNone(machine.run(many))
            self.assertEqual(machine.steps(), steps)
        self.assertEqual(machine.boxes()[0], (False, 52))

    def test_none_behind_what_came(self):
        machine = one("set 0 1; back")
        self.assertEqual(machine.run(10 ** 29), ("end", (False, 1)))
        self.assertEqual(machine.steps(), 2)
        self.assertEqual(machine.run(0), ("end", (False, 1)))
        self.assertEqual(machine.run(7), ("end", (False, 1)))
        self.assertEqual(machine.steps(), 2)
        machine = one("set 0 1; load 0 0 0; set 0 2")
        self.assertEqual(machine.run(2), ("fault", "mark"))
        self.assertEqual((machine.steps(), machine.boxes()[0]), (2, (False, 1)))

    def test_a_run_is_as_many_steps(self):
        text = "room 0 #2; store 7 1 0; plus 1 #1; jump under 1 #9 1; back"
        ran, stepped = one(text), one(text)
        for many in (1, 5, 9, 30):
            ran.run(many)
            for _ in range(many):
                self.assertIsNone(stepped.step())
            self.assertTrue(ran == stepped)

    def test_no_number(self):
        machine = one("set 0 1; back")
        before = machine.twin()
        for thing in NO_STEPS + plainly.odd_things():
            if not isinstance(thing, float):
                with self.assertRaises(NoNumber):
                    machine.run(thing)
        self.assertTrue(machine == before)
        machine.run(9)
        with self.assertRaises(NoNumber):
            machine.run(True)

    def test_no_address(self):
        machine = one("back")
        for thing in NO_ADDRESSES + plainly.odd_things():
            with self.assertRaises(NoAddress):
                machine.cell(thing)
        self.assertEqual(machine.cell(0), NOUGHT)
        self.assertEqual(machine.cell(4095), NOUGHT)


class Twins(unittest.TestCase):
    TEXT = ("room 2 #3; room 3 #4; store 7 1 3; give 3; store 2 0 2; load 0 7 1; load 0 7 2; "
            "call 0; back", "load 0 7 0; store 6 -1 7; room 1 #2; load 5 7 9")

    def test_alike_and_by_itself(self):
        for steps in range(14):
            for swept in (None, 100):
                for rule in (None, "clear", "barrier"):
                    machine = two(*self.TEXT, without=rule, many=3)
                    machine.run(steps)
                    if swept:
                        machine.begin_sweep()
                        machine.sweep(swept)
                    twin = machine.twin()
                    self.assertIsInstance(twin, Machine)
                    before = all_told(machine)
                    self.assertTrue(twin == machine)
                    self.assertFalse(twin != machine)
                    self.assertEqual(all_told(twin), before)
                    self.assertEqual((twin.told(), twin.steps()), (machine.told(), machine.steps()))
                    self.go_on(twin)
                    self.assertEqual(all_told(machine), before)
                    self.go_on(machine)
                    self.assertTrue(twin == machine)
                    self.assertEqual(all_told(twin), all_told(machine))

    def go_on(self, machine):
        machine.run(5)
        if machine.swept() is None:
            machine.begin_sweep()
        machine.run(3)
        machine.sweep(4096)
        machine.run(20)

    def test_a_twin_of_a_twin(self):
        machine = two(*self.TEXT)
        machine.run(6)
        self.assertTrue(machine.twin().twin() == machine)


class Alike(unittest.TestCase):
    def unlike(self, one_of, other):
        self.assertFalse(one_of == other)
        self.assertFalse(other == one_of)
        self.assertTrue(one_of != other)

    def like(self, one_of, other):
        self.assertTrue(one_of == other)
        self.assertTrue(other == one_of)
        self.assertFalse(one_of != other)

    def test_made_alike(self):
        self.like(one("set 0 1; back"), one("set 0 1; back"))
        self.like(two("back", "back"), two("back", "back"))

    def test_rows_and_names(self):
        self.unlike(one("set 0 1; back"), one("set 0 2; back"))
        self.unlike(one("set 0 1; back"), one("set 0 1; back; back"))
        self.unlike(Machine([named("a")], "a"), Machine([named("b")], "b"))
        same = [named("a"), named("b")]
        self.unlike(Machine(same, "a"), Machine(same[::-1], "a"))
        self.unlike(Machine(same, "a"), Machine(same, "b"))
        self.unlike(Machine(same, "a"), Machine(same[:1], "a"))
        self.unlike(Machine([named("a", [("go", 5), ("back",)])], "a"),
                    Machine([named("a", [("go", 6), ("back",)])], "a"))

    def test_doors_that_no_use_names(self):
        rows = [("back",)] * 3
        for doors in ((), (0,), (0, 1, 2)):
            self.like(Machine([named("a", rows, doors)], "a"), Machine([named("a", rows, (2,))], "a"))
        for doors, number in (((1, 2), 0), ((0, 1), 1), ((1,), 0)):
            self.like(Machine([named("a", rows, doors, 2, (("a", number),))], "a"),
                      Machine([named("a", rows, (0, 1, 2), 2, (("a", 1),))], "a"))
        self.unlike(Machine([named("a", rows, (0, 1), 2, (("a", 0),))], "a"),
                    Machine([named("a", rows, (0, 1), 2, (("a", 1),))], "a"))
        self.unlike(Machine([named("a", rows, (0, 1), 2, (("a", 0),))], "a"),
                    Machine([named("a", rows, (0, 1), 2)], "a"))

    def test_numbers_whose_rooms_are_the_same(self):
        self.like(Machine([named("a", many=17)], "a"), Machine([named("a", many=18)], "a"))
        self.unlike(Machine([named("a", many=18)], "a"), Machine([named("a", many=19)], "a"))
        self.like(one("back", stack=33), one("back", stack=36))
        self.unlike(one("back", stack=36), one("back", stack=37))
        self.unlike(one("back", stack=1), one("back", stack=2))

    def test_stacks_of_other_rooms_also_where_no_word_leads_there(self):
        ones = [one("set 6 0; back", stack=stack) for stack in (9, 10)]
        for machine in ones:
            machine.run(1)
        self.assertEqual(ones[0].boxes(), ones[1].boxes())
        self.unlike(*ones)

    def test_rules(self):
        machines = [one("back", without=rule) for rule in (None,) + RULES]
        for k, machine in enumerate(machines):
            for number, other in enumerate(machines):
                self.assertIs(machine == other, k == number)

    def test_boxes_and_steps_and_rows(self):
        self.unlike(done("set 0 1; set 1 0"), done("set 0 0; set 1 1"))
        self.unlike(one("back", {0: (False, 1)}), one("back"))
        self.unlike(one("back", {0: word(1, 2, rights="x")}),
                    one("back", {0: (False, word(1, 2, rights="x")[1])}))
        machine = one("go 0")
        before = machine.twin()
        machine.step()
        self.assertEqual(all_told(machine), all_told(before))
        self.unlike(machine, before)

    def test_what_came(self):
        machine = one("load 0 0 0")
        before = machine.twin()
        machine.step()
        self.unlike(machine, before)
        ones = [one("jump same 0 1 2; go 1; back", {1: (False, number)}) for number in (0, 1)]
        for each in ones:
            each.run(2)
        self.unlike(*ones)

    def test_touches_alone(self):
        text = "jump same 5 4 3; load 1 7 1; go 4; load 1 7 2; set 5 0; go 5"
        ones = [one(text, {5: (False, number)}) for number in (0, 9)]
        ones[0].run(3)
        ones[1].run(4)
        for each in ones:
            each.run(100 - each.steps())
        told = [all_told(each) for each in ones]
        self.assertEqual([each.steps() for each in ones], [100, 100])
        self.assertEqual([one_of.pop("touches") for one_of in told],
                         [[("a", "read", 18)], [("a", "read", 17)]])
        self.assertEqual(told[0], told[1])
        self.unlike(*ones)

    def test_cells(self):
        ones = [done(f"set 0 5; store 7 {k} 0; set 0 0") for k in (1, 1)]
        self.like(*ones)
        ones = [done("set 0 5; store 7 2 0"), done("set 0 5; store 7 3 0")]
        self.unlike(*ones)

    def test_rooms(self):
        text = ("room 0 #2; room 1 #2; jump same 5 4 4; go 6; give 0; go 7; give 1; set 0 0; "
                "set 1 0; go 9")
        ones = [one(text, {5: (False, number)}) for number in (0, 1)]
        for each in ones:
            each.run(60)
        self.assertEqual(ones[0].taken(), [(96, 98)])
        self.assertEqual(ones[1].taken(), [(98, 100)])
        self.unlike(*ones)

    def test_which_rooms_a_sweep_noted(self):
        """All told is alike, and goes on otherwise when the sweep is done."""
        ones = []
        for early in (True, False):
            machine = one("room 0 #2; give 0; set 0 0; go 3")
            machine.run(1)
            if early:
                machine.step()
            machine.begin_sweep()
            machine.run(9 - machine.steps())
            ones.append(machine)
        self.assertEqual(all_told(ones[0]), all_told(ones[1]))
        self.unlike(*ones)
        for machine in ones:
            machine.sweep(4096)
        self.assertEqual([machine.taken() for machine in ones], [[], [(96, 98)]])

    def test_sweeps(self):
        machine = one("back")
        swept = machine.twin()
        swept.begin_sweep()
        self.unlike(machine, swept)
        on = swept.twin()
        on.sweep(1)
        self.unlike(on, swept)
        on.sweep(4096)
        self.like(on, machine)

    def test_a_sweep_that_is_done_leaves_nothing(self):
        machine = done("room 0 #2; give 0")
        machine.begin_sweep()
        machine.sweep(4096)
        twin = machine.twin()
        twin.begin_sweep()
        twin.sweep(4096)
        self.like(machine, twin)

    def test_like_nothing_else(self):
        machine = one("back")
        for thing in plainly.odd_things() + [0, 5, "", "a", [machine], (machine,)]:
            self.assertIs(machine == thing, False)
            self.assertIs(machine != thing, True)


class Sweeps(unittest.TestCase):
    """Refusals; what a sweep does stands in test_heap."""

    def test_sweeping(self):
        machine = one("back")
        self.assertIsNone(machine.begin_sweep())
        machine.sweep(9)
        before = machine.twin()
        with self.assertRaises(Sweeping):
            machine.begin_sweep()
        self.assertTrue(machine == before)

    def test_no_sweep_ahead_of_no_number(self):
        machine = one("back")
        before = machine.twin()
        for thing in [1, 4096, 0, -1, 4097] + plainly.odd_things():
            with self.assertRaises(NoSweep):
                machine.sweep(thing)
        self.assertTrue(machine == before)

    def test_no_number(self):
        machine = one("back")
        machine.begin_sweep()
        before = machine.twin()
        for thing in [0, -1, 4097, 10 ** 29, "", "5", (5,)] + plainly.odd_things():
            with self.assertRaises(NoNumber):
                machine.sweep(thing)
        self.assertTrue(machine == before)
        self.assertEqual(machine.swept(), 0)


if __name__ == "__main__":
    unittest.main()
