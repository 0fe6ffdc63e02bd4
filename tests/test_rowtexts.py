import random
import unittest

import plainly
from sealedreach.errors import NoText, ReachError
from sealedreach.rows import look_at_rows
from sealedreach.rowtexts import read_rows, shown_rows

# Rows of text that by themselves are none.
NONE = [
    "", " ", "  ", "back ", " back", "back  ", "back 0", "BACK", "Back", "bac", "backs", "-",
    "set", "set 0", "set 0 5 ", " set 0 5", "set  0 5", "set 0  5", "set 0 5 5", "set 0 #5",
    "set 8 5", "set -1 5", "set 0 -1", "set 0 65536", "set 0 05", "set 00 5", "set 0 00",
    "set 0 -0", "set 0 +5", "set 0 5.0", "set 0 5_0", "set 0 0x5", "set 0 five", "set 0 ",
    "set  5", "set 0,5", "set 0\t5", "set -0 5", "set 0 " + "9" * 30, "set 0 " + "9" * 31,
    "set 0 1" + "0" * 5000, "set 0 " + "0" * 5000, "SET 0 5", "set 0 5 # five",
    "do plus 0 1", "do plus 0 #1", "do", "do 0 1", "plus", "plus 0", "plus 0 8", "plus 0 -1",
    "plus 0 #", "plus 0 #-1", "plus 0 #65536", "plus 0 ##5", "plus 0 # 5", "plus 0 #05",
    "plus 0 #00", "plus 0 #-0", "plus 0 5#", "plus #0 5", "plus 0 #" + "9" * 5000,
    "plus 0 worth 5", "plus 0 box 5", "plus 0 1 2", "plus plus 0 1", "xor 0 1", "not 0 1",
    "less 0", "less 0 ", "less 0  ", "less 0 --", "less 0 -r", "less 0 r-", "less 0 wr",
    "less 0 rr", "less 0 q", "less 0 R", "less 0 r w", "less 0 0", "less - 0", "less 0 rwlsnfxcoo",
    "less 8 -", "less 0 - ", "load 0 6", "load 0 6 -9", "load 0 6 16", "load 0 6 -0",
    "load 0 6 +2", "load 0 6 --2", "load 0 6 - 2", "load 0 6 -02", "load 0 6 02", "load 8 6 0",
    "load 0 8 0", "load 0 6 #2", "store 6 2", "store 6 16 0", "store 6 -9 0", "store 6 0 8",
    "store 6 -8 -8", "poke 6 16 0", "poke 6 0 8", "jump", "jump same 0 #5", "same 0 #5 3",
    "jump same 0 #5 4096", "jump same 0 #5 -1", "jump same 0 #5 03", "jump plus 0 #5 3",
    "jump same 8 #5 3", "jump same 0 8 3", "jump over 0 #5 3", "jump 0 #5 3",
    "jump same 0 #5 #3", "ask 0 mark", "ask 0 row 1", "ask 0 mark 8", "ask mark 0 1", "ask 0 1",
    "ask 0  1", "ask 0 Mark 1", "go", "go 4096", "go -1", "go #3", "go 03", "go 3 3", "enter",
    "enter 8", "enter #0", "call", "call 8", "give", "give 8", "room 0", "room 0 #65536",
    "room 8 #5", "move 0", "move 0 8", "move 0 #1", "seal 0 8", "open 0 8", "open 0", "entry",
    "entry 8", "here", "here 8", "walk 0", "walk 0 8", "walk 0 #-1", "walk 0 -1", "narrow 0 8",
    "exact 0 8", "box 0", "worth 0", "set 0 5;back", "#", "0", "back\r", "set 0 \u0665",
    "set 0 \u00b2", "set \uff10 5", "plus 0 #\u0665", "b\u0430ck", "back\u2028", "back\x0b"]


class Texts(unittest.TestCase):
    def refuse(self, thing, number):
        with self.assertRaises(NoText) as caught:
            read_rows(thing)
        if number is None:
            self.assertIsNone(caught.exception.number)
        self.assertEqual(caught.exception.number, number)
        self.assertIsInstance(caught.exception, ReachError)


class Shown(Texts):
    def test_told_ones(self):
        for row, text in [
                (("do", "plus", 0, ("box", 1)), "plus 0 1"),
                (("do", "plus", 0, ("worth", 5)), "plus 0 #5"), (("less", 0, "rwl"), "less 0 rwl"),
                (("less", 0, ""), "less 0 -"), (("load", 0, 6, -2), "load 0 6 -2"),
                (("store", 6, 2, 0), "store 6 2 0"), (("poke", 6, -8, 7), "poke 6 -8 7"),
                (("jump", "under", 0, ("worth", 5), 3), "jump under 0 #5 3"),
                (("jump", "same", 0, ("box", 5), 4095), "jump same 0 5 4095"),
                (("set", 3, 65535), "set 3 65535"), (("back",), "back"),
                (("ask", 3, "kind", 4), "ask 3 kind 4"), (("walk", 1, ("worth", 0)), "walk 1 #0"),
                (("room", 2, ("box", 0)), "room 2 0"), (("go", 0), "go 0"),
                (("move", 1, 2), "move 1 2"), (("do", "either", 7, ("box", 7)), "either 7 7")]:
            self.assertEqual(shown_rows([row]), text)
            self.assertEqual(read_rows(text), [row])

    def test_each_row(self):
        for row, text in plainly.some_rows():
            self.assertEqual(shown_rows([row]), text)

    def test_parted_by_line_feeds(self):
        self.assertEqual(shown_rows([("go", 0), ("back",)]), "go 0\nback")
        self.assertEqual(shown_rows([("back",)] * 3), "back\nback\nback")
        text = shown_rows([("here", 0)] * 64)
        self.assertEqual(text.count("\n"), 63)
        self.assertFalse(text.endswith("\n"))

    def test_is_a_text(self):
        self.assertIsInstance(shown_rows([("back",)]), str)


class Read(Texts):
    def test_each_row(self):
        for row, text in plainly.some_rows():
            self.assertEqual(read_rows(text), [row])

    def test_kinds_of_what_is_read(self):
        rows = read_rows("plus 0 #5\nless 0 -\nload 0 6 -2\nback")
        self.assertIsInstance(rows, list)
        self.assertEqual([len(row) for row in rows], [4, 3, 4, 1])
        for row in rows:
            self.assertIsInstance(row, tuple)
        self.assertIsInstance(rows[0][3], tuple)
        self.assertIs(rows[1][2] == "", True)
        self.assertIsInstance(rows[2][3], int)

    def test_there_and_back(self):
        chance = random.Random(5)
        good = plainly.some_rows()
        for _ in range(300):
            chosen = [chance.choice(good) for _ in range(chance.randint(1, 64))]
            rows = [row for row, _ in chosen]
            text = "\n".join(line for _, line in chosen)
            self.assertEqual(shown_rows(rows), text)
            told = read_rows(text)
            self.assertEqual(told, rows)
            look_at_rows(told)

    def test_sixty_four_and_sixty_five(self):
        self.assertEqual(read_rows("\n".join(["back"] * 64)), [("back",)] * 64)
        self.refuse("\n".join(["back"] * 65), None)
        self.refuse("\n".join(["back"] * 1000), None)

    def test_a_row_that_is_none_ahead_of_too_many(self):
        self.refuse("\n".join(["back"] * 64 + ["bac"]), 64)
        self.refuse("\n".join(["back"] * 70 + ["bac"] + ["back"] * 9), 70)
        self.refuse("\n".join(["bac"] * 70), 0)


class Refused(Texts):
    def test_rows_that_are_none(self):
        for line in NONE:
            self.refuse(line, 0)
            self.refuse("back\nset 0 5\n" + line, 2)
            self.refuse(line + "\n" + line, 0)
            self.refuse("back\n" + line + "\nback\n" + line, 1)

    def test_empty_rows(self):
        self.refuse("", 0)
        self.refuse("\n", 0)
        self.refuse("back\n", 1)
        self.refuse("\nback", 0)
        self.refuse("back\n\nback", 1)
        self.refuse("back\nback\n\n", 2)

    def test_no_text(self):
        for thing in [0, 5, b"back", ["back"], ("back",), [("back",)], {"back": 1}
                      ] + plainly.odd_things():
            self.refuse(thing, None)

    def test_one_sign_more_or_less(self):
        good = plainly.some_rows()
        texts = {text for _, text in good}
        for _, text in good[::5]:
            for k in range(len(text)):
                less = text[:k] + text[k + 1:]
                for other in (less, text[:k] + " " + text[k:], text[:k] + "0" + text[k:],
                              text[:k] + "-" + text[k:]):
                    if other not in texts:
                        self.refuse_or_write_back(other)

    def refuse_or_write_back(self, text):
        try:
            rows = read_rows(text)
        except NoText as refused:
            self.assertEqual(refused.number, 0)
        else:
            self.assertEqual(shown_rows(rows), text)
            look_at_rows(rows)


class HandedIn(Texts):
    def test_by_names(self):
        self.assertEqual(shown_rows(rows=[("back",)]), "back")
        self.assertEqual(read_rows(text="back"), [("back",)])

    def test_what_is_handed_in_stays(self):
        rows = [("less", 0, ""), ("do", "plus", 0, ("box", 1)), ("back",)]
        shown_rows(rows)
        self.assertEqual(rows, [("less", 0, ""), ("do", "plus", 0, ("box", 1)), ("back",)])

    def test_told_lists_are_new(self):
        told = read_rows("back\ngo 0")
        told.append(5)
        self.assertEqual(read_rows("back\ngo 0"), [("back",), ("go", 0)])
        self.assertEqual(told, [("back",), ("go", 0), 5])


if __name__ == "__main__":
    unittest.main()
