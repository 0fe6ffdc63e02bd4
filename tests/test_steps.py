"""What each row does, and how it faults, in a machine of one compartment."""

import random
import unittest

import plainly
from made import NOUGHT, OWN, STACK, TOP, all_told, done, one, rows_of
from plainly import bits_with, word
from sealedreach.lesser import entry, lessened, narrowed, opened, sealed, walked
from sealedreach.machine import Machine

OWN_WORD = word(*OWN, rights="rwlsf")
STACK_WORD = word(*STACK, 84, "rwlsn")
SEAL_WORD = word(3, 4, rights="fco")
NOTHING = (False, bits_with(at=77, first=4095, count=2, rights="rwxco", kind=9))


class Boxes(unittest.TestCase):
    def box(self, expected, number, text, hands=None, **others):
        """The rows put this word into this box, and change nothing else but what they say."""
        machine = done(text, hands, **others)
        self.assertIsNone(machine.told())
        self.assertEqual(machine.boxes()[number], expected, text)
        self.assertIs(machine.boxes()[number][0], expected[0])
        return machine

    def faults(self, fault, text, hands=None, **others):
        """The last of the rows faults, and changes nothing."""
        many = len(rows_of(text))
        machine = one(text, hands, **others)
        machine.run(many - 1)
        self.assertIsNone(machine.told(), text)
        before = all_told(machine)
        machine.step()
        self.assertEqual(machine.told(), ("fault", fault), text)
        self.assertEqual(all_told(machine), before)
        self.assertEqual(machine.steps(), many)
        machine.step()
        self.assertEqual(machine.run(9), ("fault", fault))
        self.assertEqual((machine.steps(), all_told(machine)), (many, before))


class Plain(Boxes):
    def test_set(self):
        for number in (0, 5, 65535):
            self.box((False, number), 3, f"set 3 {number}", {3: OWN_WORD})
        self.box((False, 5), 7, "set 7 5")

    def test_move(self):
        machine = self.box(OWN_WORD, 2, "move 2 7")
        self.assertEqual(machine.boxes()[7], OWN_WORD)
        self.box(STACK_WORD, 7, "move 7 6")
        self.box(NOTHING, 0, "move 0 5", {5: NOTHING, 0: OWN_WORD})
        self.box(OWN_WORD, 1, "move 1 1", {1: OWN_WORD})

    def test_do_with_a_worth(self):
        for word_of_row, expected in [("plus", 107), ("minus", 93), ("times", 700), ("and", 4),
                                      ("or", 103), ("either", 99)]:
            self.box((False, expected), 0, f"set 0 100; {word_of_row} 0 #7")

    def test_do_with_a_box(self):
        for word_of_row, expected in [("plus", 16), ("minus", 4), ("times", 60), ("and", 2),
                                      ("or", 14), ("either", 12)]:
            machine = self.box((False, expected), 0, f"set 0 10; set 1 6; {word_of_row} 0 1")
            self.assertEqual(machine.boxes()[1], (False, 6))
        self.box((False, 14), 0, "set 0 7; plus 0 0")

    def test_do_tells_the_rest(self):
        self.box((False, TOP), 0, "minus 0 #1")
        self.box((False, 0), 0, "plus 0 #1", {0: (False, TOP)})
        self.box((False, 1), 0, "times 0 0", {0: (False, TOP)})
        self.box((False, TOP - 1), 0, "times 0 #2", {0: (False, TOP)})
        self.box((False, 2 ** 45 - 65535), 0, "minus 0 #65535")

    def test_do_goes_by_the_bits_and_takes_the_mark(self):
        bits = OWN_WORD[1]
        self.box((False, bits), 7, "plus 7 #0")
        self.box((False, bits), 0, "plus 0 7")
        self.box((False, bits ^ STACK_WORD[1]), 6, "either 6 7")
        self.box((False, bits & STACK_WORD[1]), 7, "and 7 6")
        self.box((False, bits | STACK_WORD[1]), 7, "or 7 6")

    def test_ask(self):
        lent = word(258, 276, 4000, "fco", 9)
        for what, expected in [("mark", 1), ("bits", lent[1]), ("at", 4000), ("low", 258),
                               ("high", 276), ("rights", 32 + 128 + 256), ("kind", 9)]:
            for hands, mark in [({2: (True, lent[1])}, 1), ({2: (False, lent[1])}, 0)]:
                told = mark if what == "mark" else expected
                hands = {**hands, 4: SEAL_WORD}
                machine = self.box((False, told), 4, f"ask 2 {what} 4", hands)
                self.assertEqual(machine.boxes()[2], hands[2])

    def test_ask_where_bits_tell_nothing(self):
        for what, expected in [("mark", 0), ("bits", NOTHING[1]), ("at", 77), ("low", 0),
                               ("high", 0), ("rights", 1 + 2 + 64 + 128 + 256), ("kind", 9)]:
            self.box((False, expected), 5, f"ask 0 {what} 5", {0: NOTHING})
        self.box((False, 15), 0, "ask 0 kind 0", {0: (False, TOP)})

    def test_ask_of_a_word_to_all(self):
        self.box((False, 4096), 1, "ask 0 high 1", {0: word(0, 4096, rights="x")})
        self.box((False, 0), 1, "ask 0 low 1", {0: word(0, 4096, rights="x")})


class Lesser(Boxes):
    """walk to entry tell just what point 8 says, of drawn words too."""

    def test_walk(self):
        self.box(word(*OWN, 21, "rwlsf"), 7, "walk 7 #5")
        self.box(word(*OWN, 21, "rwlsf"), 7, "set 0 5; walk 7 0")
        self.box(word(*OWN, 15, "rwlsf"), 7, "walk 7 #4095")
        self.box(word(*OWN, 15, "rwlsf"), 7, "minus 0 #1; walk 7 0")
        self.box(word(*OWN, 16, "rwlsf"), 7, "walk 7 #61440")
        self.box(word(*OWN, 0, "rwlsf"), 7, "walk 7 #4080")
        self.box((False, 4), 0, "set 0 5; walk 0 #4095")
        self.box((False, 4096), 0, "walk 0 #1", {0: (False, 4096 + 4095)})
        locked = word(*OWN, rights="rw", kind=5)
        self.box((False, locked[1]), 0, "walk 0 #1", {0: locked})

    def test_walk_by_the_bits_of_a_word(self):
        self.box(word(*OWN, 32, "rwlsf"), 7, "move 0 7; walk 7 0")

    def test_narrow_and_exact(self):
        self.box(word(17, 19, 17, "rwlsf"), 7, "walk 7 #1; narrow 7 #2")
        self.box(word(17, 19, 17, "rwlsf"), 7, "walk 7 #1; exact 7 #2")
        self.box((False, OWN_WORD[1]), 7, "narrow 7 #5")
        self.box((False, OWN_WORD[1]), 7, "exact 7 #5")
        self.box((False, OWN_WORD[1]), 7, "narrow 7 #0")
        self.box((False, OWN_WORD[1]), 7, "narrow 7 #65535")
        self.box((False, OWN_WORD[1]), 7, "minus 0 #1; narrow 7 0")

    def test_narrow_is_wider_where_few_bits_cant_tell(self):
        self.box(word(20, 60, 21, "rwlsn"), 6, "walk 6 #4033; narrow 6 #36")
        lost = word(*STACK, 21, "rwlsn")[1]
        self.box((False, lost), 6, "walk 6 #4033; exact 6 #36")
        self.box(word(22, 40, 22, "rwlsn"), 6, "walk 6 #4034; exact 6 #18")
        self.box((False, lost), 6, "walk 6 #4033; exact 6 #17")

    def test_less(self):
        self.box(word(*OWN, rights="rl"), 7, "less 7 rlx")
        self.box(word(*OWN, rights=""), 7, "less 7 -")
        self.box(word(*OWN, rights="rwlsf"), 7, "less 7 rwlsnfxco")

    def test_seal_and_open(self):
        locked = word(*OWN, rights="rwlsf", kind=3)
        self.box(locked, 7, "load 0 7 0; seal 7 0")
        self.box(OWN_WORD, 7, "load 0 7 0; seal 7 0; open 7 0")
        self.box((False, locked[1]), 7, "load 0 7 0; seal 7 0; seal 7 0")
        self.box((False, OWN_WORD[1]), 7, "seal 7 7")
        self.box((False, OWN_WORD[1]), 7, "load 0 7 0; open 7 0")
        self.box(word(*OWN, rights="rwls"), 7, "load 0 7 0; seal 7 0; less 0 o; open 7 0")
        self.box((False, OWN_WORD[1]), 7, "load 0 7 0; walk 0 #1; seal 7 0")

    def test_entry(self):
        self.box(word(0, 2, 1, "fx", 1), 0, "here 0; entry 0")
        self.box((False, OWN_WORD[1]), 7, "entry 7")

    def test_drawn_words(self):
        chance = random.Random(5)
        for _ in range(150):
            held = [self.handed(chance) for _ in range(2)]
            number = chance.choice((0, 1, 3, 16, 17, 4095, 65535))
            rights = chance.choice(plainly.lawful_rights())
            for text, expected in [
                    (f"walk 0 #{number}", walked(held[0], number)),
                    ("walk 0 1", walked(held[0], held[1][1])),
                    (f"narrow 0 #{number}", narrowed(held[0], number)),
                    (f"exact 0 #{number}", narrowed(held[0], number, exact=True)),
                    (f"less 0 {rights or '-'}", lessened(held[0], rights)),
                    ("seal 0 1", sealed(*held)), ("open 0 1", opened(*held)),
                    ("entry 0", entry(held[0])), ("move 0 1", held[1])]:
                machine = self.box(expected, 0, text, dict(enumerate(held)))
                self.assertEqual(machine.boxes()[1:], [held[1]] + [NOUGHT] * 4
                                 + [STACK_WORD, OWN_WORD])

    def handed(self, chance):
        """A word that may be handed."""
        while True:
            told = plainly.any_word(chance)
            rights = "".join(sign for k, sign in enumerate("rwlsnfxco") if told[1] >> 32 + k & 1)
            if not told[0] or not any(sign in "rwlsn" for sign in rights):
                return told


class Here(Boxes):
    def test_here(self):
        self.box(word(0, 1, 1, "fx"), 0, "here 0")
        self.box(word(0, 3, 2, "fx"), 5, "set 0 1; here 5; set 0 2")
        machine = done("set 0 1; here 5; set 0 2")
        self.assertEqual(machine.row_word(), word(0, 3, 3, "fx"))

    def test_here_where_it_leads(self):
        machine = done("here 0; plus 1 #1; enter 0")
        self.assertEqual(machine.row_word(), word(0, 3, 1, "fx"))
        machine.run(2)
        self.assertEqual(machine.boxes()[1], (False, 2))
        self.assertEqual(machine.row_word(), word(0, 3, 1, "fx"))


class Cells(Boxes):
    def test_store_and_load(self):
        machine = self.box((False, 5), 1, "set 0 5; store 7 2 0; load 1 7 2")
        self.assertEqual(machine.cell(18), (False, 5))
        self.assertEqual(machine.touches(), [("a", "write", 18), ("a", "read", 18)])

    def test_marked_ones(self):
        machine = self.box(OWN_WORD, 0, "store 7 1 7; load 0 7 1")
        self.assertEqual(machine.cell(17), OWN_WORD)
        self.box((False, OWN_WORD[1]), 0, "store 7 1 7; less 7 r; load 0 7 1")
        self.box(SEAL_WORD, 0, "load 0 7 0")

    def test_into_the_very_box(self):
        self.box(SEAL_WORD, 7, "load 7 7 0")
        machine = done("store 7 3 7")
        self.assertEqual(machine.cell(19), OWN_WORD)

    def test_offsets_go_from_at(self):
        machine = self.box((False, 9), 0, "walk 7 #8; set 1 9; store 7 -8 1; load 0 7 -8")
        self.assertEqual(machine.cell(16), (False, 9))
        machine = self.box((False, 9), 0, "walk 7 #4084; set 1 9; store 7 15 1; load 0 7 15")
        self.assertEqual(machine.cell(19), (False, 9))
        self.assertEqual(machine.touches(), [("a", "write", 19), ("a", "read", 19)])

    def test_the_stack(self):
        machine = self.box(OWN_WORD, 0, "store 6 -1 7; load 0 6 -1")
        self.assertEqual(machine.cell(83), OWN_WORD)
        machine = done("store 6 -8 6")
        self.assertEqual(machine.cell(76), STACK_WORD)

    def test_poke(self):
        bits = SEAL_WORD[1]
        machine = done("set 0 5; poke 7 0 0")
        self.assertEqual(machine.cell(16), (False, bits // 2 ** 28 * 2 ** 28 + 5))
        self.assertEqual(machine.touches(), [("a", "write", 16)])
        machine = done("minus 0 #1; store 7 1 0; set 0 0; poke 7 1 0")
        self.assertEqual(machine.cell(17), (False, 2 ** 45 - 2 ** 28))
        machine = done("poke 7 2 6")
        self.assertEqual(machine.cell(18), (False, STACK_WORD[1] % 2 ** 28))

    def test_a_poked_word_has_no_mark(self):
        self.box((False, OWN_WORD[1]), 0, "store 7 1 7; poke 7 1 7; load 0 7 1")

    def test_touches_in_order(self):
        machine = done("load 0 7 3; poke 7 2 0; store 6 -2 0; load 0 6 -1; load 0 7 3")
        self.assertEqual(machine.touches(), [("a", "read", 19), ("a", "write", 18),
                                             ("a", "write", 82), ("a", "read", 83), ("a", "read", 19)])

    def test_handed_words_outside(self):
        machine = self.box((False, 3), 1, "set 2 3; store 0 0 2; load 1 0 0",
                           {0: word(5, 6, rights="rw")})
        self.assertEqual(machine.cell(5), (False, 3))


class CellFaults(Boxes):
    def all_three(self, fault, by, offset, reads=True):
        """All rows that reach cells fault so, by this word in box 0."""
        for text in (f"load 1 0 {offset}", f"store 0 {offset} 1", f"poke 0 {offset} 1"):
            if reads or not text.startswith("load"):
                self.faults(fault, text, {0: by})

    def test_mark(self):
        self.all_three("mark", NOUGHT, 0)
        self.all_three("mark", (False, word(*OWN, rights="rwlsf")[1]), 0)
        self.all_three("mark", (False, word(*OWN, 4000, "", 5)[1]), 0)

    def test_seal(self):
        for kind in range(1, 16):
            self.all_three("seal", word(*OWN, rights="rwlsf", kind=kind), 0)
        self.all_three("seal", word(*OWN, 4000, "", 5), 0)

    def test_right(self):
        self.faults("right", "load 1 0 0", {0: word(*OWN, rights="wlsf")})
        self.faults("right", "store 0 0 1", {0: word(*OWN, rights="rlsf")})
        self.faults("right", "poke 0 0 1", {0: word(*OWN, rights="rlsf")})
        self.all_three("right", SEAL_WORD, 0)
        self.all_three("right", word(*OWN, 4000, "x"), 0)

    def test_bounds(self):
        for at, offset in ((16, -1), (16, 4), (20, 0), (15, 0), (0, 15), (4095, 15), (16, 15),
                           (23, -3), (23, -8)):
            self.all_three("bounds", word(*OWN, at, "rw"), offset)

    def test_at_is_not_gone_over_modulo(self):
        self.all_three("bounds", word(0, 16, 4095, "rw"), 1)
        self.all_three("bounds", word(0, 16, 4090, "rw"), 6)
        self.all_three("bounds", word(0, 16, 2, "rw"), -3)

    def test_store(self):
        self.faults("store", "store 0 0 7", {0: word(*OWN, rights="rwl")})
        self.faults("store", "store 0 0 6", {0: word(*OWN, rights="rwl")})

    def test_near(self):
        self.faults("near", "store 7 0 6")
        self.faults("near", "less 6 r; store 7 0 6")
        self.faults("near", "move 0 7; less 0 rwls; store 7 0 0")

    def test_near_ones_go_to_the_stack(self):
        machine = done("move 0 7; less 0 r; store 6 -1 0")
        self.assertEqual(machine.cell(83), word(*OWN, rights="r"))

    def test_unmarked_ones_need_no_rights_to_be_stored(self):
        machine = done("set 1 8; store 0 0 1", {0: word(*OWN, rights="w")})
        self.assertEqual(machine.cell(16), (False, 8))

    def test_store_and_near_are_due_last(self):
        self.faults("mark", "store 0 0 6", {0: NOUGHT})
        self.faults("seal", "store 0 0 6", {0: word(*OWN, rights="w", kind=4)})
        self.faults("right", "store 0 0 6", {0: word(*OWN, rights="r")})
        self.faults("bounds", "store 0 4 6", {0: word(*OWN, rights="w")})
        self.faults("store", "store 0 0 6", {0: word(*OWN, rights="w")})
        self.faults("near", "store 0 0 6", {0: word(*OWN, rights="ws")})


class Goes(Boxes):
    def at(self, expected, text, hands=None, many=None):
        machine = one(text, hands)
        machine.run(len(rows_of(text)) if many is None else many)
        self.assertIsNone(machine.told())
        self.assertEqual(machine.row_word(), expected)
        return machine

    def test_go(self):
        self.at(word(0, 2, 1, "fx"), "go 1; back", many=1)
        self.at(word(0, 1, 0, "fx"), "go 0", many=100)
        self.at(word(0, 1, 4095, "fx"), "go 4095")

    def test_go_within_a_compartment_farther_on(self):
        machine = Machine([("a", rows_of("back; back; back"), (), 1, ()),
                           ("b", rows_of("go 1; go 4095; back"), (), 1, ())], "b")
        machine.step()
        self.assertEqual(machine.row_word(), word(3, 6, 4, "fx"))
        machine.step()
        self.assertEqual(machine.row_word(), word(3, 6, 2, "fx"))
        self.assertEqual(machine.run(5), ("fault", "rows"))

    def test_jump_yes_and_no(self):
        for test, pairs in [("same", [(5, 5, True), (5, 6, False)]),
                            ("unlike", [(5, 5, False), (5, 6, True)]),
                            ("under", [(4, 5, True), (5, 5, False), (6, 5, False)]),
                            ("from", [(4, 5, False), (5, 5, True), (6, 5, True)])]:
            for number, other, yes in pairs:
                expected = word(0, 2, 40 if yes else 2, "fx")
                self.at(expected, f"set 0 {number}; jump {test} 0 #{other} 40")
                expected = word(0, 3, 4000 if yes else 3, "fx")
                machine = self.at(expected, f"set 0 {number}; set 1 {other}; jump {test} 0 1 4000")
                self.assertEqual(machine.boxes()[:2], [(False, number), (False, other)])

    def test_jump_asks_of_bits(self):
        bits = word(1, 2, rights="x")[1]
        for hands in ({0: (True, bits), 1: (False, bits)}, {0: (False, bits), 1: (True, bits)}):
            self.at(word(0, 1, 9, "fx"), "jump same 0 1 9", hands)
        self.at(word(0, 1, 9, "fx"), "jump under 0 6 9")

    def test_jump_is_modulo_4096(self):
        machine = Machine([("a", rows_of("back; back; back"), (), 1, ()),
                           ("b", rows_of("jump same 0 0 4094; back"), (), 1, ())], "b")
        machine.step()
        self.assertEqual(machine.row_word(), word(3, 5, 1, "fx"))

    def test_enter(self):
        for kind in (0, 1):
            machine = self.at(word(0, 40, 17, "fx"), "enter 0", {0: word(0, 40, 17, "fx", kind)})
            self.assertEqual(machine.boxes()[0], word(0, 40, 17, "fx", kind))
        self.at(word(4, 5, 3000, "x"), "enter 0", {0: word(4, 5, 3000, "x")})

    def test_enter_faults(self):
        for hands in ({0: NOUGHT}, {0: (False, word(0, 1, rights="fx")[1])},
                      {0: (False, word(0, 1, rights="fx", kind=9)[1])}):
            self.faults("mark", "enter 0", hands)
        for kind in range(2, 16):
            self.faults("seal", "enter 0", {0: word(0, 1, rights="fx", kind=kind)})
            self.faults("seal", "enter 0", {0: word(0, 1, rights="rw", kind=kind)})
        for rights in ("", "f", "rwlsf", "fco"):
            for kind in (0, 1):
                self.faults("right", "enter 0", {0: word(0, 1, rights=rights, kind=kind)})
        self.faults("right", "enter 7")

    def test_entered_rows_run(self):
        machine = one("enter 0; back; set 5 9", {0: word(2, 3, rights="x", kind=1)})
        self.assertEqual(machine.run(2), None)
        self.assertEqual(machine.boxes()[5], (False, 9))
        self.assertEqual(machine.run(1), ("fault", "rows"))


class NoRow(Boxes):
    def faults_so(self, machine, steps):
        machine.run(steps - 1)
        self.assertIsNone(machine.told())
        before = all_told(machine)
        machine.step()
        self.assertEqual(machine.told(), ("fault", "rows"))
        self.assertEqual(machine.steps(), steps)
        self.assertEqual(all_told(machine), before)

    def test_behind_the_last_row(self):
        self.faults_so(one("set 0 1"), 2)

    def test_in_what_is_left_of_a_room(self):
        text = "; ".join(["set 0 1"] * 17)
        machine = one(text)
        self.assertEqual(machine.row_word(), word(0, 18, rights="fx"))
        self.faults_so(machine, 18)

    def test_out_of_bounds(self):
        self.faults_so(one("enter 0; set 0 1", {0: word(0, 1, 1, "x")}), 2)
        self.faults_so(one("enter 0; set 0 1", {0: word(1, 2, 0, "x")}), 2)

    def test_no_row_there(self):
        self.faults_so(one("enter 0; set 0 1", {0: word(0, 256, 100, "x")}), 2)
        self.faults_so(one("enter 0; set 0 1", {0: word(0, 4096, 4095, "x")}), 2)

    def test_rows_of_another_compartment_within_bounds_run(self):
        machine = Machine([("a", rows_of("enter 0"), (), 1, ()),
                           ("b", rows_of("load 1 7 0; back"), (), 1, ())], "a",
                          hands={0: word(0, 16, 1, "x")})
        self.assertEqual(machine.run(3), ("end", word(0, 16, 1, "x")))
        self.assertEqual(machine.touches(), [("b", "read", 16)])


class Back(Boxes):
    def test_end(self):
        machine = one("set 0 7; back; set 0 8")
        self.assertEqual(machine.run(100), ("end", (False, 7)))
        self.assertEqual(machine.told(), ("end", (False, 7)))
        self.assertEqual(machine.row_word(), word(0, 3, 1, "fx"))
        self.assertEqual(machine.steps(), 2)
        before = all_told(machine)
        machine.step()
        self.assertEqual(machine.run(5), ("end", (False, 7)))
        self.assertEqual((all_told(machine), machine.steps()), (before, 2))

    def test_end_with_a_marked_word(self):
        machine = one("move 0 6; back")
        self.assertEqual(machine.run(2), ("end", STACK_WORD))
        self.assertEqual(machine.boxes()[:2], [STACK_WORD, NOUGHT])

    def test_end_changes_nothing_else(self):
        machine = one("set 0 7; set 1 8; set 5 9; store 6 -1 0; back")
        machine.run(4)
        before = all_told(machine)
        machine.step()
        self.assertEqual(all_told(machine), before)


if __name__ == "__main__":
    unittest.main()
