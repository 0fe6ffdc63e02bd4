"""Drawn programs, step by step, against a machine worked out plainly."""

import random
import unittest

import drawn
from made import cells_of
from plainmachine import Plain
from sealedreach.machine import Machine
from sealedreach.rules import RULES

STEPS = 150


def all_but_cells(machine):
    return {"boxes": machine.boxes(), "row": machine.row_word(), "depth": machine.depth(),
            "shelf": machine.shelf_words(), "touches": machine.touches(),
            "standing": machine.standing(), "taken": machine.taken(), "given": machine.given(),
            "swept": machine.swept(), "steps": machine.steps(), "came": machine.told()}


def plainly_told(plain):
    state = plain.state
    return {"boxes": state["boxes"], "row": state["row"], "depth": len(state["shelf"]),
            "shelf": plain.shelf_words(), "touches": state["touches"],
            "standing": sorted(state["standing"]), "taken": sorted(state["taken"]),
            "given": state["given"], "swept": state["swept"], "steps": state["steps"],
            "came": state["came"]}


class Against(unittest.TestCase):
    def sweep_both(self, chance, machine, plain):
        if plain.state["swept"] is None:
            machine.begin_sweep()
            plain.begin_sweep()
        many = chance.choice((1, 30, 100, 1000, 4000, 4096))
        self.assertIs(machine.sweep(many), plain.sweep(many))

    def go(self, seed, rule):
        chance = random.Random(seed)
        compartments, begin, stack = drawn.draw(chance)
        hands = drawn.draw_hands(chance) if chance.random() < 0.4 else None
        machine = Machine(compartments, begin, stack=stack, hands=hands, without=rule)
        plain = Plain(compartments, begin, stack, hands, rule)
        self.assertEqual(machine.own_words(), plain.own_words())
        for step in range(STEPS):
            machine.step()
            plain.step()
            if chance.random() < 0.06:
                self.sweep_both(chance, machine, plain)
            self.assertEqual(all_but_cells(machine), plainly_told(plain), (seed, rule, step))
            if plain.state["came"] is not None:
                break
        self.assertEqual(cells_of(machine), [plain.cell(address) for address in range(4096)])
        return plain

    def test_with_all_rules(self):
        faults, rows = {}, {}
        for seed in range(250):
            plain = self.go(seed, None)
            for fault, many in plain.faults.items():
                faults[fault] = faults.get(fault, 0) + many
            for row, many in plain.done.items():
                rows[row] = rows.get(row, 0) + many
        self.assertEqual(len(faults), 11)
        self.assertEqual(len(rows), 22)
        self.assertGreater(min(rows.values()), 50)

    def test_without_a_rule(self):
        for number, rule in enumerate(RULES):
            for seed in range(25):
                self.go(1000 * number + seed, rule)


if __name__ == "__main__":
    unittest.main()
