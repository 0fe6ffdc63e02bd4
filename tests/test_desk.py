"""A desk: what each row of words is answered, and which refusal is due first."""

import unittest

import plainly
from made import rows_of
from plainly import word
from sealedreach.desk import Desk
from sealedreach.errors import (
    NoAddress, NoLine, NoName, NoNumber, NoSweep, NoText, ReachError, Sweeping, TooMany)
from sealedreach.machine import Machine
from sealedreach.reach import reach
from sealedreach.texts import shown, shown_word

TEXT = ("part a 2; doors; use b 0; room 2 #20; load 0 7 1; call 0; store 2 3 0; give 2; back; "
        "part b 1; doors 0; set 0 9; back")
LOOP = "part a 1; doors 0; plus 0 #1; go 0"
ABOUT_ONE = ("drop", "run", "box", "cell", "row", "touches", "begin", "sweep", "rooms", "reach")
NUMBERED = ("run", "box", "cell", "sweep")


def desk_with(name="m", stack=64, begin="a", text=TEXT):
    desk = Desk()
    assert desk.say(f"machine {name} {stack} {begin} {text}") == "ok"
    return desk


def machine_of(stack=64, begin="a"):
    """The machine of that text, made by hand."""
    rows = "room 2 #20; load 0 7 1; call 0; store 2 3 0; give 2; back"
    return Machine([("a", rows_of(rows), (), 2, (("b", 0),)),
                    ("b", rows_of("set 0 9; back"), (0,), 1, ())], begin, stack=stack)


class Answers(unittest.TestCase):
    def test_all_of_one_machine(self):
        desk, machine = desk_with(), machine_of()
        for steps in (0, 1, 1, 1, 1, 1, 1, 1):
            came = machine.run(steps)
            self.assertIsNone(came)
            self.assertEqual(desk.say(f"run m {steps}"), "goes")
            self.all_alike(desk, machine)
        self.assertEqual(machine.run(5), ("end", (False, 9)))
        self.assertEqual(desk.say("run m 5"), "end 9")
        self.all_alike(desk, machine)
        self.assertEqual(desk.say("run m 0"), "end 9")

    def all_alike(self, desk, machine):
        for number, held in enumerate(machine.boxes()):
            self.assertEqual(desk.say(f"box m {number}"), shown_word(held))
        for address in (0, 15, 16, 17, 18, 19, 96, 99, 4095):
            self.assertEqual(desk.say(f"cell m {address}"), shown_word(machine.cell(address)))
        self.assertEqual(desk.say("row m"), shown_word(machine.row_word()))
        touches = " ".join(f"{name}.{what}.{address}" for name, what, address in machine.touches())
        self.assertEqual(desk.say("touches m"), touches or "-")
        rooms = " ".join(f"{low}-{high}" for low, high in machine.standing())
        self.assertEqual(desk.say("rooms m"), rooms or "-")
        table = " ".join(shown_word(held) for held in reach(machine, gates=True))
        self.assertEqual(desk.say("reach m"), table)

    def test_told_texts(self):
        desk = desk_with()
        self.assertEqual([desk.say("touches m"), desk.say("rooms m"), desk.say("row m")],
                         ["-", "-", "0-6@0:fx/0"])
        self.assertEqual(desk.say("box m 6"), "20-84@84:rwlsn/0")
        self.assertEqual(desk.say("box m 0"), "0")
        self.assertEqual(desk.say("cell m 16"), "3-4@3:fco/0")
        self.assertEqual(desk.say("cell m 17"), "6-8@6:fx/2")
        self.assertEqual(desk.say("run m 6"), "goes")
        self.assertEqual(desk.say("touches m"), "a.read.17 a.write.99")
        self.assertEqual(desk.say("rooms m"), "96-116")
        self.assertEqual(desk.say("run m 9"), "end 9")
        self.assertEqual(desk.say("rooms m"), "-")

    def test_rooms_are_sorted(self):
        desk = desk_with(text="part a 1; doors; room 0 #17; room 1 #1; room 2 #16; give 0; back")
        desk.say("run m 3")
        self.assertEqual(desk.say("rooms m"), "96-114 114-115 115-131")
        desk.say("run m 1")
        self.assertEqual(desk.say("rooms m"), "114-115 115-131")

    def test_ends_and_faults(self):
        for rows, answer in (("back", "end 0"), ("move 0 7; back", "end 16-17@16:rwlsf/0"),
                             ("load 0 0 0", "fault mark"), ("call 7", "fault gate"),
                             ("give 7", "fault room"), ("set 0 1", "fault rows")):
            desk = desk_with(text="part a 1; doors; " + rows)
            self.assertEqual(desk.say("run m 999999999"), answer)
            self.assertEqual(desk.say("run m 1"), answer)

    def test_sweeps(self):
        desk = desk_with()
        desk.say("run m 99")
        self.assertEqual(desk.say("box m 2"), "96-116@96:rwlsf/0")
        self.assertEqual(desk.say("begin m"), "ok")
        self.assertEqual(desk.say("box m 2"), str(word(96, 116, rights="rwlsf")[1]))
        self.assertEqual(desk.say("sweep m 4095"), "goes")
        self.assertEqual(desk.say("sweep m 1"), "done")
        self.assertEqual(desk.say("begin m"), "ok")
        self.assertEqual(desk.say("sweep m 4096"), "done")

    def test_names_and_drop(self):
        desk = Desk()
        self.assertEqual(desk.say("names"), "-")
        for name in ("b", "aa", "a", "eightlet", "c"):
            self.assertEqual(desk.say(f"machine {name} 64 a {LOOP}"), "ok")
        self.assertEqual(desk.say("names"), "a aa b c eightlet")
        self.assertEqual(desk.say("drop aa"), "ok")
        self.assertEqual(desk.say("names"), "a b c eightlet")
        for name in ("a", "b", "c", "eightlet"):
            self.assertEqual(desk.say(f"drop {name}"), "ok")
        self.assertEqual(desk.say("names"), "-")

    def test_machines_go_by_themselves(self):
        desk = Desk()
        for name in ("x", "y"):
            desk.say(f"machine {name} 64 a {LOOP}")
        desk.say("run x 9")
        self.assertEqual([desk.say("box x 0"), desk.say("box y 0")], ["5", "0"])
        self.assertEqual(Desk().say("names"), "-")

    def test_in_the_stead_of_one_there(self):
        desk = desk_with(text=LOOP)
        desk.say("run m 9")
        self.assertEqual(desk.say(f"machine m 9 a {LOOP}"), "ok")
        self.assertEqual([desk.say("box m 0"), desk.say("box m 6"), desk.say("names")],
                         ["0", "17-26@26:rwlsn/0", "m"])

    def test_stacks_and_who_begins(self):
        for stack, told in ((1, "19-20@20:rwlsn/0"), (256, "32-288@288:rwlsn/0")):
            desk = desk_with(stack=stack, begin="b")
            self.assertEqual(desk.say("box m 6"), told)
            self.assertEqual(desk.say("row m"), "6-8@6:fx/0")

    def test_all_rows_pass_through_a_text(self):
        rows = [row for row, _ in plainly.some_rows()][::7]
        for start in range(0, len(rows), 64):
            text = shown([("a", rows[start:start + 64], (), 1, ())]).replace("\n", "; ")
            self.assertEqual(Desk().say("machine m 64 a " + text), "ok")

    def test_ten_machines_and_an_eleventh(self):
        desk = Desk()
        for sign in "abcdefghij":
            self.assertEqual(desk.say(f"machine {sign} 64 a {LOOP}"), "ok")
        desk.say("run c 9")
        for name in ("k", "aa"):
            with self.assertRaises(TooMany) as caught:
                desk.say(f"machine {name} 64 a {LOOP}")
            self.assertEqual(caught.exception.size, 11)
            self.assertNotIsInstance(caught.exception, ReachError)
        self.assertEqual(desk.say("names"), "a b c d e f g h i j")
        self.assertEqual(desk.say("box c 0"), "5")
        self.assertEqual(desk.say(f"machine c 64 a {LOOP}"), "ok")
        self.assertEqual(desk.say("box c 0"), "0")
        desk.say("drop e")
        self.assertEqual(desk.say(f"machine k 64 a {LOOP}"), "ok")
        self.assertEqual(desk.say("names"), "a b c d f g h i j k")

    def test_by_name(self):
        self.assertEqual(Desk().say(row="names"), "-")


class Refused(unittest.TestCase):
    def setUp(self):
        self.desk = desk_with(text=LOOP)
        self.desk.say("run m 7")

    def refuse(self, error, row, desk=None):
        desk = self.desk if desk is None else desk
        with self.assertRaises(error) as caught:
            desk.say(row)
        self.assertIs(caught.exception.__class__, error, row)
        if desk is self.desk:
            self.assertEqual([desk.say("names"), desk.say("box m 0"), desk.say("row m")],
                             ["m", "4", "0-2@1:fx/0"])
        return caught.exception

    def test_no_text(self):
        for thing in [0, 5, ["names"], ("names",), {"names": 1}] + plainly.odd_things():
            self.refuse(NoLine, thing)

    def test_line_feeds(self):
        for row in ("names\n", "\nnames", "run m\n5", "run m 5\n", "\n",
                    "machine m 64 a part a 1\ndoors\nback", f"machine m 64 a {LOOP}\n"):
            self.refuse(NoLine, row)

    def test_no_such_words(self):
        for row in ("", " ", "name", "Names", "NAMES", "run", "runs m 5", "say", "m", "machines", "end",
                    "machine", "5", "x" * 6000):
            self.refuse(NoLine, row)

    def test_words_too_few_or_too_many(self):
        for word_of_row in ABOUT_ONE:
            good = f"{word_of_row} m 5" if word_of_row in NUMBERED else f"{word_of_row} m"
            self.refuse(NoLine, word_of_row)
            self.refuse(NoLine, word_of_row + " ")
            for row in (good + " ", good + " 5", good + " m", " " + good, good.replace(" ", "  "),
                        good.rpartition(" ")[0], good + " 5 5"):
                self.refuse(NoLine, row)
        for row in ("names ", "names m", "names -", " names", "names  "):
            self.refuse(NoLine, row)

    def test_names_not_so_written(self):
        for word_of_row in ABOUT_ONE:
            behind = " 5" if word_of_row in NUMBERED else ""
            for name in ("", "M", "m1", "ninesigns", "5", "-", "a-b", "m.", "\u00e9"):
                self.refuse(NoLine, f"{word_of_row} {name}{behind}")
        for name in ("", "M", "m1", "ninesigns", "5", "-"):
            self.refuse(NoLine, f"machine {name} 64 a {LOOP}")

    def test_numbers_not_so_written(self):
        for number in ("", "-1", "-0", "+1", "00", "01", "a", "1.0", "#1", "1234567890", "0000000001",
                       "9" * 6000, "1_0", "\u0661", "-"):
            for word_of_row in NUMBERED:
                self.refuse(NoLine, f"{word_of_row} m {number}")
            self.refuse(NoLine, f"machine m {number} a {LOOP}")
            self.refuse(NoLine, f"run x {number}")

    def test_machine_rows_cut_short(self):
        for row in ("machine", "machine ", "machine m", "machine m ", "machine m 64", "machine m 64 ",
                    "machine m 64 a", "machine m 64  ", "machine m 64  " + LOOP, "machine  m 64 a " + LOOP,
                    "machine m  64 a " + LOOP, " machine m 64 a " + LOOP, "machinem 64 a " + LOOP):
            self.refuse(NoLine, row)

    def test_an_empty_text(self):
        self.assertEqual(self.refuse(NoText, "machine m 64 a ").number, 0)
        self.assertEqual(self.refuse(NoText, "machine m 64 a  ").number, 0)

    def test_no_name(self):
        for word_of_row in ABOUT_ONE:
            row = f"{word_of_row} x 5" if word_of_row in NUMBERED else f"{word_of_row} x"
            told = self.refuse(NoName, row)
            self.assertEqual(told.name, "x")
            self.assertNotIsInstance(told, ReachError)
        for row in ("box x 8", "cell x 4096", "sweep x 0"):
            self.assertEqual(self.refuse(NoName, row).name, "x")
        self.desk.say("machine x 64 a " + LOOP)
        self.desk.say("drop x")
        self.assertEqual(self.refuse(NoName, "drop x").name, "x")

    def test_no_line_ahead_of_no_name(self):
        for row in ("run x", "run x -1", "row x 5", "box x 08", "drop x x"):
            self.refuse(NoLine, row)

    def test_boxes_and_cells(self):
        for row in ("box m 8", "box m 999999999", "cell m 4096", "cell m 999999999"):
            self.refuse(NoAddress, row)

    def test_sweeps(self):
        self.refuse(NoSweep, "sweep m 1")
        self.refuse(NoSweep, "sweep m 0")
        self.assertEqual(self.desk.say("begin m"), "ok")
        self.refuse(Sweeping, "begin m")
        self.refuse(NoNumber, "sweep m 0")
        self.refuse(NoNumber, "sweep m 4097")
        self.assertEqual(self.desk.say("sweep m 4096"), "done")
        self.refuse(NoSweep, "sweep m 1")

    def test_machines_that_are_none(self):
        for text, number in (("nothing", 0), ("part a 1", 1), ("part a 1; doors; back;", 2),
                             ("part a 1; doors; back; ", 3), ("part a 1;doors;back", 0),
                             ("part a 1; doors ; back", 1), ("part a 1; doors;  back", 2),
                             ("part a 0; doors; back", None), ("part a 1; doors 1; back", None),
                             ("part a 1; doors; back; part a 1; doors; back", None)):
            for name in ("m", "x"):
                self.assertEqual(self.refuse(NoText, f"machine {name} 64 a {text}").number, number)

    def test_who_begins_is_any_word(self):
        for begin in ("b", "A", "5", "-", "aa", "a;", "part", "\u00e9"):
            for name in ("m", "x"):
                told = self.refuse(NoName, f"machine {name} 64 {begin} {LOOP}")
                self.assertEqual(told.name, begin)

    def test_stacks(self):
        for stack in ("0", "257", "999999999"):
            self.refuse(NoNumber, f"machine m {stack} a {LOOP}")
            self.refuse(NoNumber, f"machine x {stack} a {LOOP}")

    def test_which_is_due_first(self):
        desk = Desk()
        for sign in "abcdefghij":
            desk.say(f"machine {sign} 64 a {LOOP}")
        self.refuse(NoLine, "machine K 0 z nothing", desk)
        self.refuse(NoText, "machine k 0 z nothing", desk)
        self.refuse(NoText, "machine k 0 z ", desk)
        self.assertEqual(self.refuse(NoName, f"machine k 0 z {LOOP}", desk).name, "z")
        self.refuse(NoNumber, f"machine k 0 a {LOOP}", desk)
        self.refuse(TooMany, f"machine k 1 a {LOOP}", desk)
        self.refuse(NoNumber, f"machine a 0 a {LOOP}", desk)
        self.assertEqual(desk.say("names"), "a b c d e f g h i j")


if __name__ == "__main__":
    unittest.main()
