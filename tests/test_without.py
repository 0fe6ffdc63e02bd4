"""Machines made without one of the eleven rules."""

import unittest

from made import NOUGHT, all_told, done, one, rows_of, two
from plainly import bits_with, word
from sealedreach.machine import Machine
from sealedreach.rules import RULES

OWN = word(16, 20, rights="rwlsf")
SEAL = word(3, 4, rights="fco")
A_ROOM = word(96, 98, rights="rwlsf")


def bare(of):
    return False, of[1]


class Without(unittest.TestCase):
    def box(self, rule, text, number, without, expected, hands=None):
        """A box comes out so without the rule, and as expected with all rules and without any other."""
        for left_out in (None,) + RULES:
            told = done(text, hands, left_out)
            wanted = without if left_out == rule else expected
            self.assertEqual(told.boxes()[number], wanted, (text, left_out))
            self.assertIs(told.boxes()[number][0], wanted[0])

    def all_alike(self, text, hands=None, but=()):
        """With all rules and without each one, the same comes of the rows."""
        expected = done(text, hands)
        for left_out in RULES:
            if left_out not in but:
                told = done(text, hands, left_out)
                self.assertEqual(all_told(told), all_told(expected), (text, left_out))
                self.assertEqual(told.told(), expected.told(), (text, left_out))

    def told(self, rule, text, without, expected, hands=None, steps=None):
        """So it comes out without the rule, and as expected with all rules and without any other."""
        steps = len(rows_of(text)) if steps is None else steps
        for left_out in (None,) + RULES:
            machine = one(text, hands, left_out)
            wanted = without if left_out == rule else expected
            self.assertEqual(machine.run(steps), wanted, (text, left_out))


class Poke(Without):
    def test_a_poked_word_keeps_its_mark(self):
        moved = word(1, 2, 1, "rwlsf")
        self.box("poke", "set 0 4097; store 7 1 7; poke 7 1 0; load 1 7 1", 1, moved, bare(moved))
        moved = word(1, 2, 1, "fx", 2)
        self.box("poke", "set 0 4097; store 7 1 2; poke 7 1 0; load 1 7 1", 1, moved, bare(moved),
                 {2: word(5, 9, rights="fx", kind=2)})

    def test_where_it_is_lawful_so(self):
        wide = (False, bits_with(first=4095, count=2))
        text = "store 7 1 7; poke 7 1 0; load 1 7 1"
        lost = (False, bits_with(first=4095, count=2, rights="rwlsf"))
        self.box("poke", text, 1, lost, lost, {0: wide})
        few = (False, bits_with(first=5, count=8))
        text = "store 7 1 2; poke 7 1 0; load 1 7 1"
        lost = (False, bits_with(first=5, count=8, step=3, rights="fx"))
        self.box("poke", text, 1, lost, lost, {0: few, 2: word(0, 128, rights="fx")})

    def test_plain_cells_get_no_mark(self):
        text = "set 0 5; store 7 1 0; set 1 9; poke 7 1 1; load 2 7 1"
        self.box("poke", text, 2, (False, 9), (False, 9))
        self.box("poke", "poke 7 1 7; load 2 7 1", 2, (False, OWN[1] % 2 ** 28),
                 (False, OWN[1] % 2 ** 28))

    def test_faults_stay(self):
        for text in ("poke 7 4 0", "poke 7 -1 0", "less 7 rlsf; poke 7 0 0", "poke 0 0 0",
                     "walk 7 #4000; poke 7 15 0", "walk 7 #4079; poke 7 0 0",
                     "walk 7 #4075; poke 7 -8 0"):
            self.all_alike(text)


class Narrow(Without):
    def test_beyond_its_own(self):
        for row in ("narrow", "exact"):
            self.box("narrow", f"{row} 7 #5", 7, word(16, 21, rights="rwlsf"), bare(OWN))
            self.box("narrow", f"walk 7 #4080; {row} 7 #16", 7, word(0, 16, rights="rwlsf"),
                     bare(word(16, 20, 0, "rwlsf")))
        self.box("narrow", "narrow 7 #17", 7, word(16, 34, rights="rwlsf"), bare(OWN))
        self.box("narrow", "walk 7 #1; narrow 7 #17", 7, word(16, 34, 17, "rwlsf"),
                 bare(word(16, 20, 17, "rwlsf")))

    def test_where_there_are_such_bounds(self):
        for text in ("narrow 7 #0", "narrow 7 #4081", "narrow 7 #65535", "exact 7 #17; set 0 0",
                     "walk 7 #1; exact 7 #17"):
            self.all_alike(text)

    def test_within_its_own(self):
        self.all_alike("walk 7 #1; narrow 7 #2")
        self.all_alike("walk 7 #1; exact 7 #2")

    def test_sealed_words_and_plain_ones_as_ever(self):
        for marked in (True, False):
            held = (marked, word(3, 4, rights="fco", kind=5)[1])
            self.all_alike("narrow 0 #1", {0: held}, but=("sealed",))
            self.all_alike("exact 0 #9", {0: held}, but=("sealed",))
        self.all_alike("set 0 5; narrow 0 #2; exact 0 #2")


class Less(Without):
    def test_just_the_rights_told(self):
        self.box("less", "here 0; less 0 rwlsnf", 0, word(0, 2, 1, "rwlsnf"), word(0, 2, 1, "f"))
        self.box("less", "less 7 co", 7, word(16, 20, rights="co"), word(16, 20, rights=""))
        self.box("less", "less 7 r", 7, word(16, 20, rights="r"), word(16, 20, rights="r"))
        self.box("less", "less 7 -", 7, word(16, 20, rights=""), word(16, 20, rights=""))

    def test_where_it_is_lawful_so(self):
        for rights in ("rx", "rwlsnfxco", "xc", "rc", "so"):
            self.all_alike(f"less 7 {rights}")
            self.all_alike(f"here 0; less 0 {rights}")

    def test_sealed_words_and_plain_ones_as_ever(self):
        for marked in (True, False):
            held = (marked, word(3, 4, rights="fco", kind=5)[1])
            self.all_alike("less 0 rwlsnf", {0: held}, but=("sealed",))
        self.all_alike("set 0 5; less 0 rw")


class Open(Without):
    def test_by_whatever_marked_word(self):
        for kind in (3, 4, 15):
            held = word(5, 9, 6, "fx", kind)
            for other, rights in ((OWN, "fx"), (word(1, 2, rights="x"), "x"), (SEAL, "fx"),
                                  (word(1, 2, rights="fx", kind=7), "fx"), (word(1, 2), "x")):
                expected = word(5, 9, 6, "fx") if (other, kind) == (SEAL, 3) else bare(held)
                hands = {0: held, 1: NOUGHT if other == OWN else other}
                text = "open 0 7" if other == OWN else "open 0 1"
                self.box("open", text, 0, word(5, 9, 6, rights), expected, hands)

    def test_not_by_plain_words(self):
        held = word(5, 9, rights="fx", kind=3)
        self.all_alike("open 0 1", {0: held})
        self.all_alike("open 0 1", {0: held, 1: bare(SEAL)})

    def test_kinds_below_3_as_ever(self):
        for kind in (0, 1, 2):
            held = word(5, 9, rights="fx", kind=kind)
            for text in ("open 0 7", "load 1 7 0; open 0 1"):
                self.all_alike(text, {0: held})
        self.all_alike("open 0 7", {0: bare(word(5, 9, rights="fx", kind=3))})


class Sealed(Without):
    LOCKED = "load 0 7 0; seal 7 0; "

    def test_they_load_store_and_poke(self):
        for text in ("load 1 7 0", "store 7 1 6", "poke 7 1 6"):
            near = ("fault", "near")
            self.told("sealed", self.LOCKED + text, near if text[0] == "s" else None,
                      ("fault", "seal"))
        machine = done(self.LOCKED + "load 1 7 0; store 7 1 0; poke 7 2 6", without="sealed")
        self.assertEqual(machine.boxes()[1], SEAL)
        self.assertEqual(machine.cell(17), SEAL)
        self.assertEqual([touch[1:] for touch in machine.touches()],
                         [("read", 16), ("read", 16), ("write", 17), ("write", 18)])

    def test_other_faults_stay(self):
        for rights, text, fault in (("w", "load 1 7 0", "right"), ("r", "poke 7 0 1", "right"),
                                    ("rwlsf", "load 1 7 4", "bounds"), ("rw", "store 7 0 7", "store"),
                                    ("rws", "store 7 0 7", "near")):
            self.told("sealed", f"load 0 7 0; less 7 {rights}; seal 7 0; {text}",
                      ("fault", fault), ("fault", "seal"))

    def test_they_are_walked_narrowed_lessened(self):
        lost = word(16, 20, rights="rwlsf", kind=3)
        for text, told in (("walk 7 #2", word(16, 20, 18, "rwlsf", 3)),
                           ("narrow 7 #2", word(16, 18, 16, "rwlsf", 3)),
                           ("exact 7 #2", word(16, 18, 16, "rwlsf", 3)),
                           ("less 7 rx", word(16, 20, 16, "r", 3)),
                           ("narrow 7 #5", bare(lost)), ("exact 7 #0", bare(lost))):
            self.box("sealed", self.LOCKED + text, 7, told, bare(lost))

    def test_gates_too(self):
        gate = word(5, 9, 6, "fx", 2)
        self.box("sealed", "walk 0 #1", 0, word(5, 9, 7, "fx", 2), bare(gate), {0: gate})

    def test_all_else_as_ever(self):
        for text in ("seal 7 0", "entry 7", "give 7", "open 7 0", "move 1 7; give 1", "call 7"):
            self.all_alike(self.LOCKED + text)
        self.all_alike(self.LOCKED + "open 7 6", but=("open",))
        self.all_alike(self.LOCKED + "enter 7", but=("entry",))


class Load(Without):
    def test_loaded_words_keep_their_marks(self):
        text = "store 7 1 7; less 7 rw; load 0 7 1"
        self.box("load", text, 0, OWN, bare(OWN))

    def test_stale_ones_lose_them_all_the_same(self):
        self.box("load", "room 0 #2; store 7 1 0; give 0; less 7 r; load 1 7 1", 1, bare(A_ROOM),
                 bare(A_ROOM))

    def test_faults_stay(self):
        for text in ("less 7 w; load 0 7 0", "load 0 0 0", "load 0 7 9", "here 0; load 0 0 0",
                     "set 0 7; less 7 r; load 0 7 1"):
            self.all_alike(text)


class Near(Without):
    def test_near_words_are_stored_anywhere(self):
        text = "store 7 1 6; load 0 7 1"
        self.told("near", text, None, ("fault", "near"))
        self.assertEqual(done(text, without="near").boxes()[0], word(20, 84, 84, "rwlsn"))

    def test_by_words_with_s(self):
        self.told("near", "less 7 rwlf; store 7 0 6", ("fault", "store"), ("fault", "store"))
        for text in ("less 7 rlsf; store 7 0 6", "store 7 4 6", "here 0; store 0 0 6", "store 0 0 6"):
            self.all_alike(text)


class Entry(Without):
    def test_enter_takes_any_kind(self):
        for kind in range(16):
            held = word(1, 2, 1, "fx", kind)
            expected = None if kind < 2 else ("fault", "seal")
            self.told("entry", "enter 0", None, expected, {0: held})
            machine = done("enter 0; back", {0: held}, "entry")
            self.assertEqual(machine.row_word(), word(1, 2, 1, "fx"))
            self.assertEqual(machine.depth(), 0)

    def test_other_faults_stay(self):
        self.all_alike("enter 0", {0: bare(word(1, 2, rights="fx"))})
        self.told("entry", "enter 0", ("fault", "right"), ("fault", "seal"),
                  {0: word(1, 2, rights="fco", kind=7)})


class Clear(Without):
    BEGINS = "store 6 -1 7; load 0 7 1; call 0; load 3 6 -1; load 4 6 -2; back"
    CALLED = "load 5 6 -1; store 6 -2 7; move 0 5; back"

    def test_nothing_is_cleared(self):
        own, other = word(16, 18, rights="rwlsf"), word(18, 20, rights="rwlsf")
        for rule in (None,) + RULES:
            machine = two(self.BEGINS, self.CALLED, without=rule)
            self.assertEqual(machine.run(20), ("end", own if rule == "clear" else NOUGHT))
            self.assertEqual(machine.boxes()[3:5],
                             [own, other] if rule == "clear" else [NOUGHT, NOUGHT])

    def test_nor_where_a_call_faults(self):
        machine = two(self.BEGINS, "store 6 -2 7; give 0", without="clear")
        machine.run(20)
        self.assertEqual(machine.boxes()[4], word(18, 20, rights="rwlsf"))

    def test_boxes_and_rooms_as_ever(self):
        machine = two("set 4 4; set 5 5; load 0 7 1; call 0", "back", without="clear")
        machine.run(4)
        self.assertEqual(machine.boxes()[4:6], [NOUGHT, NOUGHT])
        machine.run(1)
        self.assertEqual(machine.boxes()[1], NOUGHT)
        machine = one("room 0 #1; store 0 0 0; give 0; room 1 #1", without="clear")
        machine.run(3)
        machine.begin_sweep()
        machine.sweep(4096)
        machine.run(1)
        self.assertEqual((machine.boxes()[1], machine.cell(96)),
                         (word(96, 97, rights="rwlsf"), NOUGHT))


class Strike(Without):
    def test_a_begin_strikes_nothing(self):
        for rule in (None,) + RULES:
            machine = two("room 2 #2; load 0 7 1; call 0; back", "store 7 1 2; give 2; go 2",
                          without=rule)
            machine.run(6)
            machine.begin_sweep()
            expected = A_ROOM if rule == "strike" else bare(A_ROOM)
            self.assertEqual(machine.boxes()[2], expected)
            self.assertEqual(machine.shelf_words()[1], expected)
            self.assertEqual(machine.cell(19), A_ROOM)
            machine.sweep(4096)
            self.assertEqual(machine.boxes()[2], expected)
            self.assertEqual(machine.cell(19), bare(A_ROOM))
            self.assertEqual(machine.taken(), [])


class Barrier(Without):
    def test_stale_words_are_loaded_with_their_marks(self):
        text = "room 0 #2; store 7 1 0; give 0; load 1 7 1"
        self.box("barrier", text, 1, A_ROOM, bare(A_ROOM))

    def test_not_where_l_is_lacking(self):
        text = "room 0 #2; store 7 1 0; give 0; less 7 r; load 1 7 1"
        self.box("barrier", text, 1, bare(A_ROOM), bare(A_ROOM))

    def test_sweeps_as_ever(self):
        machine = done("room 0 #2; store 7 1 0; give 0; load 1 7 1", without="barrier")
        machine.begin_sweep()
        self.assertEqual(machine.boxes()[:2], [bare(A_ROOM)] * 2)
        machine.sweep(4096)
        self.assertEqual(machine.cell(17), bare(A_ROOM))


class AllElse(Without):
    def test_rows_that_no_rule_tells_of(self):
        for text in ("set 0 5; plus 0 #7; times 0 0; either 0 7", "ask 7 rights 0; ask 6 high 1",
                     "here 0; entry 0; enter 0; set 1 1", "jump same 0 1 2; set 0 1; set 0 2",
                     "go 2; back; back", "room 0 #20; room 1 #4; give 0; room 2 #3", "go 9",
                     "give 0", "call 0", "back", "load 0 7 0; seal 7 0; open 7 0; store 7 1 7",
                     "walk 7 #4095; walk 7 #9", "store 6 -1 6; load 0 6 -1"):
            self.all_alike(text)

    def test_calls(self):
        for rule in RULES:
            begins = rows_of("set 2 7; load 0 7 1; call 0; back")
            called = rows_of("set 2 8; set 0 9; back")
            machine = Machine([("a", begins, (), 2, (("b", 0),)), ("b", called, (0,), 1, ())], "a",
                              without=rule)
            self.assertEqual(machine.run(9), ("end", (False, 9)))
            self.assertEqual(machine.boxes()[2], (False, 7))


if __name__ == "__main__":
    unittest.main()
