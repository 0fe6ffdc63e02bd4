"""Closed tables, the least one, and which touches a table lets be."""

import random
import unittest

import drawn
import plainly
import plainreach
from made import done, one, two
from plainly import bits_with, word
from sealedreach.machine import Machine
from sealedreach.reach import is_closed, lets_be, reach

ROWS = word(0, 1, rights="fx")
STACK = word(20, 84, rights="rwlsn")
OWN = word(16, 20, rights="rwlsf")
SEAL = word(3, 4, rights="fco")
AT_FIRST = [STACK, OWN, ROWS, SEAL]
A_ROWS, B_ROWS = word(0, 1, rights="fx"), word(1, 2, rights="fx")
A_GATE, B_GATE = word(0, 1, rights="fx", kind=2), word(1, 2, rights="fx", kind=2)
A_CELLS, B_CELLS = word(16, 18, rights="rwlsf"), word(18, 20, rights="rwlsf")
A_SEAL, B_SEAL = SEAL, word(4, 5, rights="fco")


class Told(unittest.TestCase):
    """Least tables, each of which is closed, and is not without one of its words."""

    def told(self, machine, expected, gates=False):
        before = machine.twin()
        table = reach(machine, gates=gates)
        self.assertEqual(table, sorted(expected))
        self.assertTrue(machine == before)
        self.assertIs(is_closed(machine, table, gates=gates), True)
        for left_out in table:
            rest = [held for held in table if held != left_out]
            self.assertIs(is_closed(machine, rest, gates=gates), False, left_out)

    def test_at_first(self):
        self.told(one("back"), AT_FIRST)
        self.told(one("back"), AT_FIRST, gates=True)

    def test_gates(self):
        self.told(two("back", "back"), [STACK, A_CELLS, A_ROWS, A_SEAL, B_GATE])
        self.told(two("back", "back"), [STACK, A_CELLS, A_ROWS, A_SEAL, B_GATE, B_ROWS, B_CELLS,
                                        B_SEAL, A_GATE], gates=True)

    def test_words_have_low_as_at(self):
        self.told(done("walk 7 #3; walk 6 #9; set 0 1"), [STACK, OWN, word(0, 3, rights="fx"), SEAL])

    def test_none_within_another_one(self):
        held = {0: word(17, 19, 18, "rl"), 1: word(16, 20, 17, "rwlsf", 5), 2: word(16, 20, rights="f"),
                3: word(0, 1, rights="x", kind=1), 4: word(0, 1, 0, "fx"), 5: (False, 99)}
        self.told(one("back", held), AT_FIRST)
        self.told(one("back", {0: word(12, 20, rights="rwlsf")}),
                  [STACK, word(12, 20, rights="rwlsf"), ROWS, SEAL])
        self.told(one("back", {0: word(16, 20, rights="lsf"), 1: word(16, 20, rights="rwf", kind=7)}),
                  AT_FIRST)

    def test_loads_need_r_and_l(self):
        stored = "store 7 1 0; set 0 0; "
        for rights, brings in (("rl", True), ("rwlsf", True), ("r", False), ("ls", False), ("w", False)):
            far = word(5, 9, rights="rf")
            machine = done(stored + f"less 7 {rights}; set 6 0", {0: far})
            rows = word(0, 4, rights="fx")
            self.told(machine, [rows, word(16, 20, rights=rights)] + [SEAL, far] * brings)

    def test_cells_from_low_to_high(self):
        far, other = word(5, 9, rights="rf"), word(1, 3, rights="wf")
        begins = "store 7 1 0; store 7 2 1; set 0 0; set 1 0; set 6 0; "
        for at, many, brought in ((1, 1, [far]), (2, 1, [other]), (1, 2, [far, other]), (3, 1, []),
                                  (0, 1, [SEAL])):
            machine = done(begins + f"walk 7 #{at}; narrow 7 #{many}", {0: far, 1: other})
            room = word(16 + at, 16 + at + many, rights="rwlsf")
            self.told(machine, [word(0, 7, rights="fx"), room] + brought)

    def test_loads_by_loaded_words(self):
        """A room leads to a room that leads to a room."""
        machine = done("room 0 #1; room 1 #1; room 2 #1; store 0 0 1; store 1 0 2; store 7 3 0; "
                       "set 0 0; set 1 0; set 2 0")
        rooms = [word(low, low + 1, rights="rwlsf") for low in (96, 97, 98)]
        self.told(machine, [STACK, OWN, word(0, 9, rights="fx"), SEAL] + rooms)

    def test_a_ring(self):
        machine = done("room 0 #1; room 1 #1; store 0 0 1; store 1 0 0; set 1 0")
        self.told(machine, [STACK, OWN, word(0, 5, rights="fx"), SEAL, word(96, 97, rights="rwlsf"),
                            word(97, 98, rights="rwlsf")])

    def test_stale_words_in_cells_and_in_boxes(self):
        room, rows = word(96, 98, rights="rwlsf"), word(0, 4, rights="fx")
        machine = done("room 0 #2; store 7 1 0; give 0; set 0 0")
        self.told(machine, [STACK, OWN, rows, SEAL])
        self.told(machine, [STACK, OWN, rows, SEAL], gates=True)
        machine = done("room 0 #2; store 7 1 0; give 0; set 1 0")
        self.told(machine, [STACK, OWN, rows, SEAL, room])
        machine = done("room 0 #2; store 7 1 0; set 0 0; set 1 0")
        self.told(machine, [STACK, OWN, rows, SEAL, room])

    def test_entries(self):
        entry = word(9, 12, rights="fx", kind=1)
        self.told(one("back", {0: entry}), AT_FIRST + [word(9, 12, rights="fx")])
        for rights in ("rw", "f", "", "co"):
            held = word(9, 12, rights=rights, kind=1)
            self.told(one("back", {0: held}), AT_FIRST + [held])

    def test_sealed_words_and_openers(self):
        locked = word(5, 9, rights="rwf", kind=3)
        self.told(one("back", {0: locked}), AT_FIRST + [word(5, 9, rights="rwf")])
        for kind in (4, 15):
            held = word(5, 9, rights="rwf", kind=kind)
            self.told(one("back", {0: held}), AT_FIRST + [held])

    def test_near_openers(self):
        locked, opener = word(5, 9, rights="rwf", kind=9), word(9, 10, rights="o")
        self.told(one("back", {0: locked, 1: opener}),
                  AT_FIRST + [locked, opener, word(5, 9, rights="rw")])
        held = {0: locked, 1: opener, 2: word(9, 10, rights="fo")}
        self.told(one("back", held), AT_FIRST + [word(9, 10, rights="fo"), word(5, 9, rights="rwf")])

    def test_an_opener_of_many_kinds(self):
        opener = word(0, 16, 77, "fo")
        held = {0: opener, 1: word(5, 6, rights="rf", kind=4), 2: word(6, 7, rights="rf", kind=15),
                3: word(7, 8, rights="rf", kind=2), 4: word(8, 9, rights="rf", kind=1)}
        self.told(one("back", held), AT_FIRST + [
            word(0, 16, rights="fo"), word(5, 6, rights="rf"), word(6, 7, rights="rf"),
            word(7, 8, rights="rf", kind=2), word(8, 9, rights="rf", kind=1)])

    def test_sealed_openers_and_such_without_o(self):
        locked = word(5, 9, rights="rwf", kind=9)
        for other in (word(9, 10, rights="fo", kind=8), word(9, 10, rights="fc"),
                      word(10, 11, rights="fo"), word(8, 9, rights="fo")):
            self.told(one("back", {0: locked, 1: other}), AT_FIRST + [locked, other])

    def test_an_opener_behind_a_seal(self):
        held = {0: word(5, 9, rights="rwf", kind=9), 1: word(9, 10, rights="fo", kind=3)}
        self.told(one("back", held), AT_FIRST + [word(5, 9, rights="rwf"), word(9, 10, rights="fo")])

    def test_opened_words_load(self):
        """What stands in cells behind a seal is brought by the opened word."""
        begins = "load 5 7 0; room 0 #1; store 0 0 1; seal 0 5; store 7 2 0; set 0 0; set 1 0; set 5 0"
        machine = done(begins, {1: word(5, 6, rights="rf")})
        self.told(machine, [STACK, OWN, word(0, 8, rights="fx"), SEAL, word(96, 97, rights="rwlsf"),
                            word(5, 6, rights="rf")])
        machine = done(begins.replace("set 5 0", "store 7 0 1"), {1: word(5, 6, rights="rf")})
        self.told(machine, [STACK, OWN, word(0, 8, rights="fx"), word(96, 97, rights="rwlsf"), SEAL,
                            word(5, 6, rights="rf")])

    def test_calls(self):
        machine = two("set 5 5; load 0 7 1; call 0", "set 0 0; set 6 0; set 7 0; store 0 0 0")
        machine.run(6)
        rows = word(3, 7, rights="fx")
        self.assertEqual(machine.depth(), 1)
        self.told(machine, [rows])
        self.told(machine, [rows, STACK, A_CELLS, A_SEAL, word(0, 3, rights="fx"),
                            word(3, 7, rights="fx", kind=2), B_CELLS, B_SEAL,
                            word(0, 3, rights="fx", kind=2)], gates=True)

    def test_gates_with_other_rights(self):
        for rights in ("", "rw", "x"):
            gate = word(1, 2, 1, rights, 2)
            machine = Machine([("a", [("back",)], (), 2, ()), ("b", [("back",)], (0,), 2, ())], "a",
                              hands={0: gate})
            mine = [STACK, A_CELLS, A_ROWS, A_SEAL]
            self.told(machine, mine + [gate])
            self.told(machine, mine + [gate, word(1, 2, 1, rights), B_CELLS, B_SEAL], gates=True)

    def test_a_gate_to_nobody(self):
        gate = word(5, 9, rights="fx", kind=2)
        self.told(one("back", {0: gate}), AT_FIRST + [gate])
        self.told(one("back", {0: gate}), AT_FIRST + [gate, word(5, 9, rights="fx")], gates=True)

    def test_a_wide_gate(self):
        gate = word(0, 16, rights="f", kind=2)
        machine = Machine([("a", [("back",)], (), 2, ()), ("b", [("back",)], (0,), 2, ()),
                           ("c", [("back",)] * 17, (0,), 2, ())], "a", hands={0: gate})
        stack = word(24, 88, rights="rwlsn")
        self.told(machine, [stack, A_CELLS, A_ROWS, A_SEAL, gate, word(0, 16, rights="f"), B_CELLS,
                            B_SEAL], gates=True)

    def test_kept_words_count_with_gates_alone(self):
        far = word(5, 9, rights="rf")
        machine = two("load 0 7 1; call 0; back", "set 0 0; back", hands={3: far})
        machine.run(2)
        self.assertIn(far, reach(machine))
        machine = two("load 0 7 1; call 0; back", "set 3 0; back", hands={3: far})
        machine.run(3)
        self.assertNotIn(far, reach(machine))
        self.assertIn(far, reach(machine, gates=True))

    def test_against_a_plain_search(self):
        for seed in range(60):
            chance = random.Random(seed)
            compartments, begin, stack = drawn.draw(chance)
            hands = drawn.draw_hands(chance) if chance.random() < 0.5 else None
            machine = Machine(compartments, begin, stack=stack, hands=hands)
            for _ in range(3):
                for gates in (False, True):
                    self.assertEqual(reach(machine, gates=gates), plainreach.least(machine, gates))
                machine.run(chance.randrange(40))
                if machine.swept() is None and chance.random() < 0.5:
                    machine.begin_sweep()


class Closed(unittest.TestCase):
    def test_words_beside_and_rights_more(self):
        machine = one("back")
        for beside in (word(5, 9, rights="rwf"), word(30, 40, rights="rl"), word(9, 12, rights="fx"),
                       word(5, 9, rights="rw", kind=9), STACK, word(9, 12, rights="fx", kind=2)):
            self.assertIs(is_closed(machine, AT_FIRST + [beside]), True)
            self.assertIs(is_closed(machine, [beside] + AT_FIRST), True)
        wide = [word(0, 4096, 9, "rwlsnf"), word(0, 4096, 8, "fx"), word(0, 16, 7, "fco")]
        self.assertIs(is_closed(machine, wide), True)
        for k in range(3):
            self.assertIs(is_closed(machine, wide[:k] + wide[k + 1:]), False)
        self.assertIs(is_closed(machine, [STACK, word(16, 20, rights="rwlsnf"), ROWS, SEAL]), True)

    def test_words_beside_bring_more(self):
        machine = two("back", "back")
        mine = [STACK, A_CELLS, A_ROWS, A_SEAL, B_GATE]
        for beside, closed in ((word(18, 20, rights="rw"), True), (word(18, 20, rights="rl"), False),
                               (word(18, 20, rights="rl", kind=3), False),
                               (word(18, 20, rights="rl", kind=7), True),
                               (word(19, 20, rights="rl"), False),
                               (word(0, 1, rights="x", kind=1), True),
                               (word(1, 2, rights="x", kind=1), False)):
            self.assertIs(is_closed(machine, mine + [beside]), closed, beside)
        self.assertIs(is_closed(machine, mine + [B_CELLS, B_SEAL]), False)
        self.assertIs(is_closed(machine, mine + [B_CELLS, B_SEAL, A_GATE]), True)
        self.assertIs(is_closed(machine, mine + [B_CELLS, B_SEAL, A_GATE], gates=True), False)

    def test_rights_less(self):
        machine = one("back")
        for k, held in enumerate(AT_FIRST):
            low, high, rights = [(20, 84, "rwlsn"), (16, 20, "rwlsf"), (0, 1, "fx"), (3, 4, "fco")][k]
            for sign in rights:
                less = word(low, high, rights=rights.replace(sign, ""))
                table = AT_FIRST[:k] + [less] + AT_FIRST[k + 1:]
                self.assertIs(is_closed(machine, table), False, sign)

    def test_at_and_order_are_nothing(self):
        machine = one("back")
        table = [word(3, 4, 900, "fco"), word(0, 1, 5, "fx"), word(16, 20, 3, "rwlsf"),
                 word(20, 84, 4095, "rwlsn")]
        self.assertIs(is_closed(machine, table), True)
        self.assertIs(is_closed(machine, table + table), True)

    def test_an_unsealed_word_is_no_gate(self):
        machine = two("back", "back")
        table = [STACK, A_CELLS, word(0, 16, rights="fx"), A_SEAL]
        self.assertIs(is_closed(machine, table), False)
        self.assertIs(is_closed(machine, table + [B_GATE]), True)

    def test_a_wide_gate_of_a_table(self):
        machine = two("back", "back")
        mine = [STACK, A_CELLS, A_SEAL, word(0, 16, rights="fx", kind=2), word(0, 16, rights="fx")]
        self.assertIs(is_closed(machine, mine), True)
        self.assertIs(is_closed(machine, mine, gates=True), False)
        self.assertIs(is_closed(machine, mine + [B_CELLS, B_SEAL], gates=True), True)
        self.assertIs(is_closed(machine, mine[:-1] + [A_ROWS, B_CELLS, B_SEAL], gates=True), False)
        for low, high in ((0, 2), (1, 2), (1, 16)):
            table = [STACK, A_CELLS, A_SEAL, A_ROWS, word(low, high, rights="fx", kind=2),
                     word(low, high, rights="fx")]
            self.assertIs(is_closed(machine, table, gates=True), False)
            table = table + [B_CELLS, B_SEAL]
            self.assertIs(is_closed(machine, table + [A_GATE], gates=True), True)

    def test_what_is_no_table(self):
        machine = one("back")
        unlawful = (True, bits_with(rights="rx"))
        for thing in [AT_FIRST + [(False, 5)], AT_FIRST + [unlawful], AT_FIRST + [(True, 2 ** 45 - 1)],
                      AT_FIRST + [None], tuple(AT_FIRST), {held: 1 for held in AT_FIRST},
                      [list(held) for held in AT_FIRST], AT_FIRST + [(1, SEAL[1])], "", 0, [], [5],
                      AT_FIRST + [plainly.Odd()], [(True, 5, 5)], SEAL, [AT_FIRST]]:
            for gates in (False, True):
                self.assertIs(is_closed(machine, thing, gates=gates), False)
        for thing in plainly.odd_things():
            self.assertIs(is_closed(machine, thing), False)
            self.assertIs(is_closed(machine, AT_FIRST + [thing]), False)

    def test_an_empty_table_of_a_machine_without_words(self):
        machine = done("set 6 0; set 7 0; set 0 0")
        self.assertIs(is_closed(machine, []), False)
        self.assertIs(is_closed(machine, [word(0, 3, rights="fx")]), True)

    def test_drawn_tables(self):
        """Closed ones and such that lack something, against the document's words one by one."""
        chance = random.Random(8)
        told = {True: 0, False: 0}
        for seed in range(40):
            compartments, begin, stack = drawn.draw(chance)
            machine = Machine(compartments, begin, stack=stack, hands=drawn.draw_hands(chance))
            machine.run(chance.randrange(60))
            for gates in (False, True):
                beside = [plainly.any_word(chance, True) for _ in range(chance.randrange(4))]
                table = plainreach.least(machine, gates, beside)
                self.assertIs(is_closed(machine, table, gates=gates), True)
                for _ in range(6):
                    some = list(table)
                    some[chance.randrange(len(some))] = plainly.any_word(chance, True)
                    if chance.random() < 0.5:
                        some.pop(chance.randrange(len(some)))
                    else:
                        some.extend([chance.choice(table) for _ in range(3)])
                    expected = plainreach.closed(machine, some, gates)
                    self.assertIs(is_closed(machine, some, gates=gates), expected)
                    told[expected] += 1
        self.assertGreater(min(told.values()), 20)


class LetsBe(unittest.TestCase):
    def machine(self):
        return done("load 0 7 0; store 7 3 0; poke 7 2 1; load 1 6 -1; set 2 0")

    def test_rights_and_bounds(self):
        machine = self.machine()
        self.assertEqual([touch[1:] for touch in machine.touches()],
                         [("read", 16), ("write", 19), ("write", 18), ("read", 83)])
        read, write = word(16, 17, rights="r"), word(18, 20, rights="w")
        high = word(83, 84, rights="r")
        self.assertIs(lets_be([read, write, high], machine), True)
        self.assertIs(lets_be([word(0, 256, rights="rw")], machine), True)
        self.assertIs(lets_be([word(0, 256, rights="r"), word(16, 20, rights="w")], machine), True)
        for table in ([read, write], [write, high], [read, high], [], [word(0, 256, rights="r")],
                      [word(0, 256, rights="w")], [word(16, 20, rights="rw")],
                      [word(17, 18, rights="r"), write, high],
                      [word(15, 16, rights="r"), write, high], [read, word(18, 19, rights="w"), high],
                      [read, word(19, 20, rights="w"), high], [read, write, word(82, 83, rights="r")],
                      [read, write, word(84, 85, rights="r")], [word(0, 256, rights="lsnf")]):
            self.assertIs(lets_be(table, machine), False, table)

    def test_unsealed_words_alone(self):
        for kind in (1, 2, 3, 15):
            self.assertIs(lets_be([word(0, 256, rights="rw", kind=kind)], self.machine()), False)

    def test_at_is_nothing(self):
        self.assertIs(lets_be([word(0, 256, 4000, "rw")], self.machine()), True)

    def test_since(self):
        machine, table = self.machine(), [word(83, 84, rights="r")]
        for since, expected in ((0, False), (1, False), (2, False), (3, True), (4, True), (5, True),
                                (4000, True)):
            self.assertIs(lets_be(table, machine, since=since), expected)
        self.assertIs(lets_be([], machine, since=3), False)
        self.assertIs(lets_be([], machine, since=4), True)

    def test_rooms_given_out_since(self):
        machine = done("load 1 7 0; room 0 #2; load 1 7 0; load 1 0 1; store 0 0 1; give 0; load 1 0 0; "
                       "set 1 0")
        self.assertEqual(machine.given(), [(1, 96, 98)])
        table = [word(16, 20, rights="r")]
        for since, expected in ((0, True), (1, True), (2, False), (3, False), (4, False), (5, True)):
            self.assertIs(lets_be(table, machine, since=since), expected)

    def test_another_room(self):
        machine = done("room 0 #2; load 1 0 1; room 1 #2; store 1 0 1; set 5 0")
        for since, expected in ((0, True), (1, True), (2, True)):
            self.assertIs(lets_be([], machine, since=since), expected)
        machine = done("room 0 #2; room 1 #2; store 1 0 1; load 2 0 1; set 5 0")
        self.assertIs(lets_be([], machine), True)
        self.assertIs(lets_be([], machine, since=1), False)

    def test_up_to_the_high_of_a_room(self):
        for offset, box, expected in ((0, 2, True), (1, 2, True), (0, 1, False), (1, 1, False)):
            machine = one("room 0 #2; room 1 #2; give 0; load 5 7 0; room 2 #2; "
                          f"load 5 {box} {offset}; set 5 0")
            machine.run(3)
            machine.begin_sweep()
            machine.sweep(4096)
            machine.run(4)
            self.assertEqual(machine.given(), [(0, 96, 98), (0, 98, 100), (1, 96, 98)])
            self.assertEqual(machine.touches()[1], ("a", "read", (96 if box == 2 else 98) + offset))
            self.assertIs(lets_be([], machine, since=1), expected)

    def test_no_touches(self):
        self.assertIs(lets_be([], one("back")), True)

    def test_changes_nothing(self):
        machine, table = self.machine(), [word(16, 17, rights="r")]
        before = machine.twin()
        lets_be(table, machine, since=1)
        is_closed(machine, table, gates=True)
        self.assertTrue(machine == before)
        self.assertEqual(table, [word(16, 17, rights="r")])
        reach(machine).clear()
        self.assertEqual(reach(machine), plainreach.least(machine, False))


class HandedIn(unittest.TestCase):
    def test_by_names(self):
        machine = two("back", "back")
        table = reach(gates=True, machine=machine)
        self.assertEqual(len(table), 9)
        self.assertIs(is_closed(gates=True, thing=table, machine=machine), True)
        self.assertIs(is_closed(machine=machine, thing=reach(machine=machine)), True)
        self.assertIs(lets_be(since=0, machine=machine, table=table), True)

    def test_behind_the_star_by_names_alone(self):
        machine = one("back")
        self.assertRaises(TypeError, is_closed, machine, [], True)
        self.assertRaises(TypeError, reach, machine, True)
        self.assertRaises(TypeError, lets_be, [], machine, 0)

    def test_asked_without_gates_if_not_told(self):
        machine = two("back", "back")
        self.assertEqual(reach(machine), reach(machine, gates=False))
        self.assertIs(is_closed(machine, reach(machine)), True)
        self.assertIs(is_closed(machine, reach(machine), gates=True), False)


if __name__ == "__main__":
    unittest.main()
