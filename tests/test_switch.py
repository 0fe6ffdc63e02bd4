import unittest

import plainly
from plainly import word
from sealedreach.loader import loaded
from sealedreach.switch import called_by, gate_to, handed_on, stack_word

EXACT = plainly.tellable()


class Gates(unittest.TestCase):
    def test_gate_to_a_row(self):
        for row in (0, 1, 8):
            self.assertEqual(gate_to(word(20, 56, 20, "fx"), row), word(20, 56, 20 + row, "fx", 2))

    def test_whose_gate(self):
        words = loaded([("a", [("back",)] * 9, (3,), 1, ()), ("b", [("back",)], (0,), 1, ())])["words"]
        self.assertEqual(called_by(gate_to(words["a"][0], 3), words), "a")
        self.assertEqual(called_by(gate_to(words["b"][0], 0), words), "b")
        self.assertEqual(called_by(word(0, 9, 4000, "fx", 2), words), "a")

    def test_gates_of_nobody(self):
        words = loaded([("a", [("back",)] * 9, (), 1, ())])["words"]
        for low, high in [(0, 8), (1, 9), (0, 10), (16, 17), (9, 10)]:
            self.assertIsNone(called_by(word(low, high, 3, "fx", 2), words))


class Stacks(unittest.TestCase):
    def test_at_its_high(self):
        self.assertEqual(stack_word(20, 84), word(20, 84, 84, "rwlsn"))

    def test_what_lies_below_at(self):
        for low, high in [(20, 84), (32, 288), (0, 4096), (17, 18), (21, 37)]:
            for at in range(low + 1, min(high, 300) + 1):
                told = max(to for to in range(low, at + 1) if (low, to) in EXACT)
                self.assertEqual(handed_on(word(low, high, at, "rwlsn")), (low, told))

    def test_told_ones(self):
        self.assertEqual(handed_on(word(20, 84, 84, "rwlsn")), (20, 84))
        self.assertEqual(handed_on(word(20, 84, 83, "rwlsn")), (20, 80))
        self.assertEqual(handed_on(word(20, 84, 21, "rwlsn")), (20, 21))


if __name__ == "__main__":
    unittest.main()
