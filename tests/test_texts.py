"""Words and compartments written, and read back."""

import random
import unittest

import plainly
from plainly import word
from sealedreach.errors import NoText, ReachError
from sealedreach.texts import read, read_word, shown, shown_word
from test_loader import some_compartments

TOP = 2 ** 45 - 1
MAIN = ("main", [("set", 0, 5), ("do", "plus", 0, ("worth", 1)), ("less", 0, ""), ("back",)],
        (0, 2), 3, (("side", 0), ("main", 1)))
SIDE = ("side", [("back",)], (0,), 1, ())
LINES = ["part main 3", "doors 0 2", "use side 0", "use main 1", "set 0 5", "plus 0 #1", "less 0 -",
         "back", "part side 1", "doors 0", "back"]


class Words(unittest.TestCase):
    def test_shown_and_read(self):
        for held, text in [((False, 0), "0"), ((False, 5), "5"), ((False, TOP), str(TOP)),
                           (word(16, 32, 16, "rwlsf"), "16-32@16:rwlsf/0"),
                           (word(0, 1, 4095, ""), "0-1@4095:-/0"),
                           (word(0, 4096, 0, "fco", 15), "0-4096@0:fco/15"),
                           (word(258, 276, 7, "x", 2), "258-276@7:x/2"),
                           (word(4095, 4096, 0, "rwlsnf", 1), "4095-4096@0:rwlsnf/1"),
                           (word(20, 84, 84, "rwlsn", 3), "20-84@84:rwlsn/3")]:
            self.assertEqual(shown_word(held), text)
            self.assertEqual(read_word(text), held)
            self.assertIs(read_word(text)[0], held[0])
            self.assertEqual(shown_word(word=held), text)
            self.assertEqual(read_word(text=text), held)

    def test_drawn_ones(self):
        chance = random.Random(4)
        for _ in range(3000):
            held = plainly.any_word(chance)
            self.assertEqual(read_word(shown_word(held)), held)

    def refuse(self, thing):
        with self.assertRaises(NoText) as caught:
            read_word(thing)
        self.assertEqual(caught.exception.number, 0)
        self.assertIsNotNone(caught.exception.number)
        self.assertIsInstance(caught.exception, ReachError)

    def test_no_plain_words(self):
        for text in ("", " ", "00", "01", "-0", "-1", "+1", " 1", "1 ", "1\n", "\n1", "1.0", "1_0", "0x1",
                     "a", str(2 ** 45), "9" * 30, "9" * 6000, "#1", "1 1", "\u0661", "\u00b2", "-"):
            self.refuse(text)

    def test_no_marked_words(self):
        for text in ("16-32@16:rwlsf", "16-32@16:rwlsf/", "16-32@16:/0", "16-32@:r/0", "16-@16:r/0",
                     "-32@16:r/0", "16@16:r/0", "@", "-@:/", "16-32@16:r/0 ", " 16-32@16:r/0",
                     "16 - 32@16:r/0", "16-32@16:r/0/0", "16-32@16:r:r/0", "16-32@16@16:r/0",
                     "16-32-32@16:r/0", "16-32:16@r/0", "16-32@16/r:0", "016-32@16:r/0",
                     "16-032@16:r/0", "16-32@016:r/0", "16-32@16:r/00", "16-32@16:r/-0", "16-32@16:r/-1",
                     "-16-32@16:r/0", "16--32@16:r/0", "16-32@-1:r/0", "16-32@4096:r/0",
                     "16-32@16:r/16", "16-16@16:r/0", "32-16@16:r/0", "16-4097@16:r/0", "3-20@3:r/0",
                     "0-17@0:r/0", "16-32@16:wr/0", "16-32@16:rr/0", "16-32@16:rx/0", "16-32@16:xc/0",
                     "16-32@16:rc/0", "16-32@16:R/0", "16-32@16:r-/0", "16-32@16:-r/0",
                     "16-32@16:--/0", "16-32@16:r w/0", "16-32@16:#/0", "16-32@16:a/0",
                     "16-32@16:r/0\n", "+16-32@16:r/0", "16-32@16:r/a", "16-32@16:r/#0"):
            self.refuse(text)

    def test_no_text(self):
        for thing in [0, 5, (False, 5), ["5"], ("5",), word(0, 1)] + plainly.odd_things():
            self.refuse(thing)


class Compartments(unittest.TestCase):
    def test_shown(self):
        self.assertEqual(shown([MAIN, SIDE]), "\n".join(LINES))
        self.assertEqual(shown([("a", [("back",)], (), 64, ())]), "part a 64\ndoors\nback")
        self.assertEqual(shown(compartments=[SIDE]), "part side 1\ndoors 0\nback")

    def test_read(self):
        self.assertEqual(read("\n".join(LINES)), [MAIN, SIDE])
        told = read(text="part a 64\ndoors\nback")
        self.assertEqual(told, [("a", [("back",)], (), 64, ())])
        self.assertIsInstance(told, list)
        self.assertIsInstance(told[0], tuple)
        self.assertEqual([part.__class__ for part in told[0]], [str, list, tuple, int, tuple])

    def test_drawn_ones_are_read_back(self):
        chance = random.Random(6)
        rows = [row for row, _ in plainly.some_rows()]
        for _ in range(60):
            made = [(name, chance.choices(rows, k=len(own)), doors, many, uses)
                    for name, own, doors, many, uses in some_compartments(chance)]
            self.assertEqual(read(shown(made)), made)

    def test_all_rows(self):
        for row, text in plainly.some_rows():
            made = [("a", [row], (), 1, ())]
            self.assertEqual(shown(made), "part a 1\ndoors\n" + text)
            self.assertEqual(read("part a 1\ndoors\n" + text), made)

    def test_not_changed_and_not_kept(self):
        made = [("a", [("back",)], (0,), 1, ())]
        text = shown(made)
        told = read(text)
        told[0][1].clear()
        told.clear()
        self.assertEqual(made, [("a", [("back",)], (0,), 1, ())])
        self.assertEqual(read(text), made)


class NoCompartments(unittest.TestCase):
    def refuse(self, number, thing):
        text = "\n".join(thing) if isinstance(thing, list) else thing
        with self.assertRaises(NoText) as caught:
            read(text)
        self.assertEqual(caught.exception.number, number, thing)
        self.assertIs(caught.exception.number is None, number is None)
        self.assertIsInstance(caught.exception, ReachError)

    def test_no_text(self):
        for thing in [0, 5, LINES, tuple(LINES), {"a": 1}] + plainly.odd_things():
            with self.assertRaises(NoText) as caught:
                read(thing)
            self.assertIsNone(caught.exception.number)

    def test_empty_rows(self):
        self.refuse(0, "")
        self.refuse(0, "\n")
        for k in range(len(LINES) + 1):
            self.refuse(k, LINES[:k] + [""] + LINES[k:])

    def test_a_row_left_out(self):
        for k in (0, 1, 8, 9, 10):
            self.refuse(k, LINES[:k] + LINES[k + 1:])
        for k in (2, 3, 4, 5, 6, 7):
            self.assertEqual(len(read("\n".join(LINES[:k] + LINES[k + 1:]))), 2)

    def test_a_row_twice(self):
        for k, number in ((0, 1), (1, 2), (8, 9), (9, 10)):
            self.refuse(number, LINES[:k + 1] + LINES[k:])
        self.refuse(None, LINES[:3] + LINES[2:])
        self.refuse(None, LINES + LINES[8:])
        self.assertEqual(read("\n".join(LINES[:5] + LINES[4:]))[0][1][:2], [("set", 0, 5)] * 2)

    def test_a_row_moved(self):
        for order, number in (((1, 0), 0), ((0, 2, 1), 1), ((0, 4), 1), ((0, 8), 1), ((4,), 0), ((2,), 0),
                              ((0, 1, 4, 2), 3), ((0, 1, 4, 1), 3), ((0, 1, 2, 1), 3), ((0, 1, 1), 2),
                              ((0, 1, 0), 2), ((0, 1, 2, 8), 3), ((0, 0), 1), ((0, 1, 4, 8, 4), 4)):
            self.refuse(number, [LINES[k] for k in order] + ["back"])

    def test_rows_lack(self):
        for many in (1, 2, 3, 4, 9, 10):
            self.refuse(many, LINES[:many])

    def test_rows_that_are_none(self):
        for line in ("part main", "part main 3 3", "part 3", "part", "part  3", "part main  3",
                     "part main 3 ", " part main 3", "part main -3", "part main 03", "part main 123456",
                     "part main +3", "part main #3", "part Main 3", "part main3 3", "part ninesigns 3",
                     "part main three", "Part main 3", "part a-b 3", "part main -0"):
            self.refuse(0, [line] + LINES[1:])
        for line in ("doors ", "doors  0", "doors 0 ", "doors 00", "doors -1", "doors a", "doors 0,1",
                     "doors 123456", "Doors 0", "door 0", "doors 0  1", "doors #0", "doors -0"):
            self.refuse(1, LINES[:1] + [line] + LINES[2:])
        for line in ("use", "use side", "use side ", "use 0", "use side 0 0", "use side -1", "use side 00",
                     "use Side 0", "use side 123456", "use  side 0", "use side  0", "uses side 0"):
            self.refuse(2, LINES[:2] + [line] + LINES[3:])
        for line in ("set 0", "set 8 5", "set 0 65536", "do plus 0 #1", "plus 0", "less 0", "less 0 wr",
                     "load 0 7 16", "back 0", "back ", "jump same 0 1", "go 4096", "BACK", "1"):
            self.refuse(5, LINES[:5] + [line] + LINES[6:])

    def test_the_first_one_counts(self):
        self.refuse(1, LINES[:1] + ["doors -1", "use", ""])
        self.refuse(2, LINES[:2] + ["part b 1", "nothing"])
        self.refuse(4, LINES[:4] + ["nothing", "doors 0"])
        self.refuse(3, ["part a 99999", "doors 9 9", "back", "nothing"])

    def test_by_themselves_rows_but_no_compartments_come(self):
        for number, line in ((0, "part main 0"), (0, "part main 65"), (0, "part main 99999"),
                             (0, "part side 3"), (0, "part main 2"), (0, "part other 3"),
                             (1, "doors 2 0"), (1, "doors 0 0"), (1, "doors 4"), (1, "doors 99999"),
                             (1, "doors"), (1, "doors 0"), (2, "use nobody 0"), (2, "use side 1"),
                             (2, "use side 99999"), (9, "doors"), (8, "part main 1"),
                             (8, "part side 65")):
            self.refuse(None, LINES[:number] + [line] + LINES[number + 1:])

    def test_too_many(self):
        rows = ["part a 1", "doors"] + ["back"] * 64
        self.assertEqual(len(read("\n".join(rows))[0][1]), 64)
        self.refuse(None, rows + ["back"])
        parts = [[f"part {sign} 1", "doors", "back"] for sign in "abcdefghi"]
        self.assertEqual(len(read("\n".join(sum(parts[:8], [])))), 8)
        self.refuse(None, sum(parts, []))
        self.refuse(None, ["part a 2", "doors 0", "use a 0", "use a 0", "back"])

    def test_a_name_twice(self):
        self.refuse(None, ["part a 1", "doors", "back", "part a 1", "doors", "back"])
        self.refuse(6, ["part a 1", "doors", "back", "part a 1", "doors", "back", "nothing"])


if __name__ == "__main__":
    unittest.main()
