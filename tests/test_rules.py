"""Rules, a program for each that reaches farther without it, and deeds that are done."""

import unittest

import plainly
from made import all_told, one
from sealedreach.compartments import look_at_compartments
from sealedreach.errors import NoDeeds, NoRule, NoSweep, ReachError, Sweeping
from sealedreach.machine import Machine
from sealedreach.rules import RULES, breaking, played

NO_RULES = ["", "Poke", "poke ", " poke", "pok", "pokes", "room", "all", 0, 5, ("poke",), ["poke"],
            "poke\n", "p" * 6000]
NO_DEEDS = [("run",), ("run", -1), ("run", 100001), ("run", 10 ** 29), ("run", True), ("run", "5"),
            ("run", None), ("run", 5, 5), ("run", (5,)), ("begin", 5), ("begin", None), ("sweep",),
            ("sweep", 0), ("sweep", -1), ("sweep", 4097), ("sweep", 10 ** 29), ("sweep", True),
            ("sweep", "5"), ("sweep", 1, 1), ("Run", 5), ("steps", 5), ("", 5), (), ((),), (5,), (5, 5),
            ["run", 5], ["begin"], "begin", "run", 5, None, (None, 5), (("run", 5),), ("begin", []),
            (plainly.Odd(),), ("run", plainly.Odd()), (plainly.Odd(), 5), ("begin", plainly.Odd()),
            {"run": 5}, plainly.Odd(), True, b"begin", (b"begin",)]


def done_without(rule, of):
    """The machine of the program that breaks a rule, its deeds done, without a rule."""
    compartments, begin, deeds, _ = breaking(of)
    machine = Machine(compartments, begin, stack=64, without=rule)
    played(machine, deeds)
    return machine


class Breaking(unittest.TestCase):
    def test_the_rules(self):
        self.assertEqual(RULES, ("poke", "narrow", "less", "open", "sealed", "load", "near", "entry",
                                 "clear", "strike", "barrier"))
        self.assertIsInstance(RULES, tuple)

    def test_what_is_told(self):
        for rule in RULES:
            told = breaking(rule)
            self.assertIsInstance(told, tuple)
            compartments, begin, deeds, touch = told
            self.assertIsNone(look_at_compartments(compartments))
            self.assertIn(begin, [one_of[0] for one_of in compartments])
            self.assertIsInstance(deeds, list)
            self.assertIsNone(played(one("back"), [deed for deed in deeds if deed[0] == "run"]))
            self.assertIsInstance(touch, tuple)
            name, what, address = touch
            self.assertIn(name, [one_of[0] for one_of in compartments])
            self.assertIn(what, ("read", "write"))
            self.assertIn(address, range(4096))

    def test_without_the_rule(self):
        for rule in RULES:
            self.assertIn(breaking(rule)[3], done_without(rule, rule).touches(), rule)

    def test_with_all_rules(self):
        for rule in RULES:
            name, _, address = breaking(rule)[3]
            for told, _, place in done_without(None, rule).touches():
                self.assertNotEqual((told, place), (name, address), rule)

    def test_without_another_one(self):
        for rule in RULES:
            for other in RULES:
                if other != rule:
                    self.assertNotIn(breaking(rule)[3], done_without(other, rule).touches(),
                                     (rule, other))

    def test_told_anew_each_time(self):
        for rule in RULES:
            kept = repr(breaking(rule))
            compartments, _, deeds, _ = breaking(rule)
            compartments[0][1].clear()
            compartments.clear()
            deeds.clear()
            self.assertEqual(repr(breaking(rule=rule)), kept)

    def test_no_rule(self):
        for thing in NO_RULES + plainly.odd_things():
            with self.assertRaises(NoRule) as caught:
                breaking(thing)
            self.assertIsInstance(caught.exception, ReachError)


class Played(unittest.TestCase):
    TEXT = "room 0 #1; store 7 1 0; give 0; plus 1 #1; go 3"

    def test_one_behind_the_other(self):
        machine, by_hand = one(self.TEXT), one(self.TEXT)
        told = played(machine, [("run", 2), ("begin",), ("run", 1), ("sweep", 16), ("run", 0),
                                ("sweep", 2), ("run", 5)])
        self.assertIsNone(told)
        by_hand.run(2)
        by_hand.begin_sweep()
        by_hand.run(1)
        by_hand.sweep(16)
        by_hand.sweep(2)
        by_hand.run(5)
        self.assertTrue(machine == by_hand)
        self.assertEqual((machine.steps(), machine.swept()), (8, 18))

    def test_none(self):
        machine = one(self.TEXT)
        self.assertIsNone(played(machine, []))
        self.assertTrue(machine == one(self.TEXT))

    def test_the_most(self):
        machine = one(self.TEXT)
        played(machine, [("run", 100000), ("begin",), ("sweep", 4096)])
        self.assertEqual((machine.steps(), machine.swept()), (100000, None))

    def test_by_names_and_not_changed(self):
        machine, deeds = one(self.TEXT), [("run", 3), ("begin",)]
        played(deeds=deeds, machine=machine)
        self.assertEqual(deeds, [("run", 3), ("begin",)])
        self.assertEqual(machine.steps(), 3)

    def test_no_deeds(self):
        for deed in NO_DEEDS + [thing for thing in plainly.odd_things()]:
            for number in (0, 1, 4):
                machine = one(self.TEXT)
                deeds = [("run", 2), ("begin",), ("sweep", 5), ("run", 1)][:number] + [deed]
                with self.assertRaises(NoDeeds) as caught:
                    played(machine, deeds + [("run", 1), None])
                self.assertEqual(caught.exception.number, number)
                self.assertIsInstance(caught.exception, ReachError)
                self.assertTrue(machine == one(self.TEXT))

    def test_no_list(self):
        for thing in [(), (("run", 5),), "", "begin", {}, 5, ("run", 5)] + plainly.odd_things():
            if not isinstance(thing, list):
                machine = one(self.TEXT)
                with self.assertRaises(NoDeeds) as caught:
                    played(machine, thing)
                self.assertIsNone(caught.exception.number)
                self.assertTrue(machine == one(self.TEXT))

    def test_no_deeds_ahead_of_what_they_refuse(self):
        machine = one(self.TEXT)
        with self.assertRaises(NoDeeds) as caught:
            played(machine, [("sweep", 5), ("begin",), ("begin",), ("run", -1)])
        self.assertEqual(caught.exception.number, 3)
        self.assertTrue(machine == one(self.TEXT))

    def test_what_one_refuses(self):
        machine = one(self.TEXT)
        with self.assertRaises(Sweeping):
            played(machine, [("run", 3), ("begin",), ("run", 1), ("begin",), ("run", 5)])
        expected = one(self.TEXT)
        played(expected, [("run", 3), ("begin",), ("run", 1)])
        self.assertTrue(machine == expected)
        machine = one(self.TEXT)
        with self.assertRaises(NoSweep):
            played(machine, [("run", 3), ("sweep", 5), ("run", 1)])
        self.assertEqual(machine.steps(), 3)
        with self.assertRaises(NoSweep):
            played(machine, [("begin",), ("sweep", 4096), ("sweep", 1), ("begin",)])
        self.assertIsNone(machine.swept())

    def test_what_a_program_ends(self):
        machine = one("back")
        played(machine, [("run", 5), ("begin",), ("sweep", 4096), ("run", 5)])
        before = all_told(machine)
        self.assertEqual((machine.told(), machine.steps()), (("end", (False, 0)), 1))
        self.assertEqual(all_told(machine), before)


if __name__ == "__main__":
    unittest.main()
