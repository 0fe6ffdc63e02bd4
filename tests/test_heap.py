"""Rooms given out and taken back, stale words, and sweeps."""

import unittest

from made import FAULTS, HEAP, NOUGHT, all_told, done, marked_cells, one, rows_of, two
from plainly import word
from sealedreach.bounds import room_of

OWN_WORD = word(16, 20, rights="rwlsf")
GIVEN_BACK = "room 0 #2; give 0; "


def room(low, high, at=None, rights="rwlsf", kind=0):
    return word(low, high, at, rights, kind)


def bare(of):
    return False, of[1]


class Rooms(unittest.TestCase):
    def test_of_each_number(self):
        for many in list(range(1, 70)) + [127, 128, 129, 255, 256, 257, 1000, 1024, 1025, 2048, 2049]:
            machine = done(f"room 0 #{many}")
            size, step = room_of(many)
            low = -(-96 // 2 ** step) * 2 ** step
            self.assertEqual(machine.boxes()[0], room(low, low + size))
            self.assertEqual(machine.standing(), [(low, low + size)])
            self.assertEqual(machine.given(), [(0, low, low + size)])
            self.assertEqual((machine.taken(), machine.touches()), ([], []))

    def test_all_of_the_heap(self):
        machine = done("room 0 #3840")
        self.assertEqual(machine.boxes()[0], room(256, 4096))
        machine = done("room 0 #3841")
        self.assertEqual((machine.boxes()[0], machine.standing()), (NOUGHT, []))
        self.assertEqual(done("room 0 #4096", {0: (False, 8)}).boxes()[0], NOUGHT)

    def test_no_such_number(self):
        for text in ("room 5 #0", "room 5 #4097", "room 5 #65535", "minus 0 #1; room 5 0",
                     "room 5 6", "room 7 #4097", "room 6 7"):
            machine = done(text)
            self.assertIsNone(machine.told())
            self.assertEqual(machine.boxes()[int(text.split("room ")[1][0])], NOUGHT)
            self.assertEqual((machine.standing(), machine.given()), ([], []))

    def test_the_number_of_a_box(self):
        self.assertEqual(done("set 0 5; room 1 0").standing(), [(96, 101)])
        self.assertEqual(done("set 0 5; room 0 0").boxes()[0], room(96, 101))

    def test_the_least_place(self):
        machine = done("room 0 #17; room 1 #1; room 2 #16; room 3 #40; room 4 #1; room 5 #300")
        self.assertEqual([told[1:] for told in machine.given()],
                         [(96, 114), (114, 115), (115, 131), (132, 172), (131, 132), (192, 512)])
        self.assertEqual(machine.standing(), sorted(told[1:] for told in machine.given()))

    def test_every_place_is_tried(self):
        """Rooms of many sizes till the heap is full, against a plain search."""
        sizes = (1, 300, 17, 2, 100, 16, 33, 700, 64, 5, 1000)
        asked = [sizes[k % len(sizes)] for k in range(50)]
        machine = one("; ".join(f"room 0 #{many}" for many in asked))
        held = []
        for many in asked:
            size, step = room_of(many)
            lows = [low for low in range(96, 4097 - size) if low % 2 ** step == 0
                    and all(high <= low or low + size <= one for one, high in held)]
            machine.step()
            if lows:
                held.append((lows[0], lows[0] + size))
                self.assertEqual(machine.boxes()[0], room(*held[-1]))
            else:
                self.assertEqual(machine.boxes()[0], NOUGHT)
            self.assertEqual([told[1:] for told in machine.given()], held)
        self.assertTrue(25 < len(held) < 50)

    def test_none_left(self):
        machine = one("room 0 #1; set 1 5; jump unlike 0 #0 0; back")
        machine.run(3 * 4000)
        self.assertIsNone(machine.told())
        self.assertEqual(len(machine.standing()), 4000)
        self.assertEqual(machine.boxes()[0], room(4095, 4096))
        self.assertEqual(machine.run(4), ("end", NOUGHT))
        self.assertEqual(machine.standing(), [(low, low + 1) for low in range(*HEAP)])

    def test_the_cells_are_cleared(self):
        machine = one("room 0 #2; store 0 0 7; store 0 1 0; give 0; go 7; back; back; room 1 #2")
        machine.run(5)
        self.assertEqual([machine.cell(96), machine.cell(97)], [OWN_WORD, room(96, 98)])
        machine.begin_sweep()
        self.assertTrue(machine.sweep(4096))
        self.assertEqual([machine.cell(96), machine.cell(97)], [OWN_WORD, bare(room(96, 98))])
        machine.run(1)
        self.assertEqual(machine.boxes()[1], room(96, 98))
        self.assertEqual([machine.cell(96), machine.cell(97)], [NOUGHT, NOUGHT])

    def test_touches_there_were(self):
        machine = done("room 0 #1; load 1 7 0; store 0 0 1; room 0 #2; give 0; room 0 #1; load 0 7 5")
        self.assertEqual(machine.given(), [(0, 96, 97), (2, 97, 99), (2, 99, 100)])
        self.assertEqual(machine.standing(), [(96, 97), (99, 100)])
        self.assertEqual(machine.taken(), [(97, 99)])

    def test_rooms_stay_when_a_call_comes_back(self):
        machine = two("load 0 7 1; call 0; store 0 0 7; load 1 0 0; back", "room 0 #1; back")
        machine.run(6)
        self.assertEqual(machine.boxes()[1], word(16, 18, rights="rwlsf"))
        self.assertEqual(machine.given(), [(1, 96, 97)])


class Gives(unittest.TestCase):
    def gives(self, text, **others):
        machine = done(text, **others)
        self.assertIsNone(machine.told(), text)
        self.assertEqual(machine.standing(), [])
        return machine

    def faults(self, text, hands=None):
        machine = one(text, hands)
        machine.run(len(rows_of(text)) - 1)
        before = all_told(machine)
        machine.step()
        self.assertEqual(machine.told(), ("fault", "room"), text)
        self.assertEqual(all_told(machine), before)

    def test_give(self):
        machine = self.gives("room 0 #20; give 0")
        self.assertEqual(machine.taken(), [(96, 116)])
        self.assertEqual(machine.boxes()[0], room(96, 116))
        self.assertEqual(machine.given(), [(0, 96, 116)])

    def test_by_whatever_word_to_just_that_room(self):
        for text in ("walk 0 #9; ", "less 0 w; ", "less 0 wf; ", "exact 0 #20; ", "narrow 0 #19; ",
                     "move 1 0; ",
                     "load 1 7 0; seal 0 1; open 0 1; "):
            self.gives("room 0 #20; " + text + "give 0")

    def test_fault(self):
        self.faults("give 0")
        self.faults("give 7")
        self.faults("give 6")
        self.faults("here 0; give 0")
        self.faults("give 0", {0: word(5, 6, rights="w")})
        self.faults("load 0 7 0; give 0")
        for text in ("plus 0 #0; ", "narrow 0 #18; ", "less 0 rlsf; ", "less 0 -; ",
                     "load 1 7 0; seal 0 1; ", "narrow 0 #2; ", "give 0; ", "walk 0 #2; narrow 0 #18; "):
            self.faults("room 0 #20; " + text + "give 0")

    def test_twice(self):
        self.faults("room 0 #1; move 1 0; give 0; give 1")
        machine = two("room 0 #1; load 1 7 1; call 1; give 0", "give 0; give 0")
        machine.run(5)
        self.assertEqual(machine.boxes()[:2], [NOUGHT, (False, FAULTS.index("room") + 1)])
        self.assertEqual(machine.taken(), [(96, 97)])

    def test_by_whoever_has_such_a_word(self):
        machine = two("room 1 #1; load 0 7 1; call 0; back", "give 1; back")
        machine.run(5)
        self.assertEqual((machine.standing(), machine.taken()), ([], [(96, 97)]))

    def test_given_out_no_more(self):
        machine = done("room 0 #1; give 0; room 1 #1; room 2 #1; give 1; room 3 #2")
        self.assertEqual([told[1:] for told in machine.given()],
                         [(96, 97), (97, 98), (98, 99), (99, 101)])
        self.assertEqual(machine.taken(), [(96, 97), (97, 98)])

    def test_taken_ones_are_sorted(self):
        machine = done("room 0 #1; room 1 #1; room 2 #1; give 2; give 0; give 1")
        self.assertEqual(machine.taken(), [(96, 97), (97, 98), (98, 99)])


class Stale(unittest.TestCase):
    def loaded(self, text, **others):
        return done(text, **others).boxes()[5]

    def test_a_load_leaves_the_mark_away(self):
        stored = "room 0 #20; store 7 1 0; "
        self.assertEqual(self.loaded(stored + "load 5 7 1"), room(96, 116))
        self.assertEqual(self.loaded(stored + "give 0; load 5 7 1"), bare(room(96, 116)))
        machine = done(stored + "give 0; load 5 7 1")
        self.assertEqual(machine.cell(17), room(96, 116))

    def test_of_all_words_whose_low_lies_there(self):
        for change in ("walk 1 #3; narrow 1 #2", "walk 1 #18; narrow 1 #2", "less 1 rf",
                       "load 2 7 0; seal 1 2", "walk 1 #4000", "less 1 sf", "less 1 lf"):
            stored = f"room 0 #20; move 1 0; {change}; store 7 1 1; give 0; "
            told = self.loaded(stored + "load 5 7 1")
            self.assertFalse(told[0], change)
            kept = done(stored + "set 5 5").cell(17)
            self.assertTrue(kept[0], change)
            self.assertEqual(told[1], kept[1])

    def test_words_that_lead_elsewhere_are_none(self):
        for change in ("less 1 f", "less 1 -"):
            text = f"room 0 #1; move 1 0; {change}; store 6 -1 1; give 0; load 5 6 -1"
            self.assertTrue(self.loaded(text)[0])
        text = "room 0 #1; room 1 #1; store 7 1 1; give 0; load 5 7 1"
        self.assertEqual(self.loaded(text), room(97, 98))
        text = "room 1 #1; room 0 #1; store 7 1 1; give 0; load 5 7 1"
        self.assertEqual(self.loaded(text), room(96, 97))

    def test_words_with_numbers_of_rooms_to_rows_and_kinds(self):
        for rights in ("fx", "fco"):
            held = word(96, 98, rights=rights)
            text = "store 7 1 1; room 0 #2; give 0; load 5 7 1"
            self.assertEqual(done(text, {1: held}).boxes()[5], held)
            machine = done(text, {1: held})
            machine.begin_sweep()
            machine.sweep(4096)
            self.assertEqual(machine.cell(17), held)

    def test_in_boxes_it_still_touches(self):
        machine = done("room 0 #1; set 1 9; store 0 0 1; give 0; load 5 0 0; store 0 0 7; poke 0 0 1")
        self.assertIsNone(machine.told())
        self.assertEqual(machine.boxes()[5], (False, 9))
        self.assertEqual(machine.touches(), [("a", "write", 96), ("a", "read", 96),
                                             ("a", "write", 96), ("a", "write", 96)])

    def test_moved_and_lessened_it_keeps_its_mark(self):
        machine = done("room 0 #2; give 0; move 1 0; less 1 r; walk 0 #1; narrow 0 #1")
        self.assertEqual(machine.boxes()[:2], [room(97, 98), room(96, 98, rights="r")])

    def test_stored_it_keeps_its_mark(self):
        self.assertEqual(done("room 0 #1; give 0; store 7 1 0").cell(17), room(96, 97))


class Sweeps(unittest.TestCase):
    def test_boxes_and_shelf_and_cells(self):
        begins = ("room 2 #2; room 3 #2; store 7 2 2; store 7 3 3; store 6 -1 2; move 5 2; "
                  "walk 6 #4095; load 0 7 1; call 0; back")
        machine = two(begins, "store 7 2 2; give 2; go 1", many=4)
        machine.run(11)
        stale, other = room(96, 98), room(98, 100)
        self.assertEqual(machine.boxes()[2:4], [stale, other])
        self.assertEqual([machine.shelf_words()[k] for k in (1, 2, 4)], [stale, other, stale])
        shelf = machine.shelf_words()
        machine.begin_sweep()
        self.assertEqual(machine.boxes()[2:4], [bare(stale), other])
        self.assertEqual(machine.shelf_words(), [shelf[0], bare(stale), other, shelf[3], bare(stale),
                                                 shelf[5], shelf[6]])
        self.assertEqual([machine.cell(at) for at in (18, 19, 22, 87)],
                         [stale, other, stale, stale])
        self.assertIs(machine.sweep(4096), True)
        self.assertEqual([machine.cell(at) for at in (18, 19, 22, 87)],
                         [bare(stale), other, bare(stale), bare(stale)])

    def test_so_many_cells(self):
        machine = one("room 0 #1; store 7 1 0; store 7 2 0; store 6 -1 0; give 0; back")
        machine.run(5)
        machine.begin_sweep()
        stale = room(96, 97)
        self.assertEqual(machine.swept(), 0)
        for many, on, struck in ((1, 1, 0), (16, 17, 0), (1, 18, 1), (1, 19, 2), (64, 83, 2),
                                 (1, 84, 3), (4011, 4095, 3)):
            self.assertIs(machine.sweep(many), False)
            self.assertEqual(machine.swept(), on)
            self.assertEqual([machine.cell(at) for at in (17, 18, 83)],
                             [bare(stale)] * struck + [stale] * (3 - struck))
            self.assertEqual(machine.taken(), [(96, 97)])
        self.assertIs(machine.sweep(1), True)
        self.assertIsNone(machine.swept())
        self.assertEqual(machine.taken(), [])

    def test_more_than_there_are_left(self):
        for first, then in ((4095, 4096), (1, 4096), (4000, 97), (2048, 2048)):
            machine = one("back")
            machine.begin_sweep()
            self.assertIs(machine.sweep(first), False)
            self.assertIs(machine.sweep(then), True)
            self.assertIsNone(machine.swept())
        machine = one("back")
        machine.begin_sweep()
        self.assertIs(machine.sweep(4096), True)

    def test_only_then_the_room_is_given_out_anew(self):
        text = GIVEN_BACK + "room 1 #2; room 2 #2; room 3 #2; give 3"
        machine = one(text)
        machine.run(2)
        machine.begin_sweep()
        machine.run(1)
        self.assertEqual(machine.boxes()[1], room(98, 100))
        machine.sweep(4095)
        machine.run(1)
        self.assertEqual(machine.boxes()[2], room(100, 102))
        machine.sweep(1)
        self.assertEqual(machine.standing(), [(98, 100), (100, 102)])
        machine.run(1)
        self.assertEqual(machine.boxes()[3], room(96, 98))
        self.assertEqual(machine.given(), [(0, 96, 98), (0, 98, 100), (0, 100, 102), (0, 96, 98)])
        machine.run(1)
        self.assertEqual(machine.taken(), [(96, 98)])

    def test_rooms_taken_back_behind_its_begin(self):
        machine = one("room 0 #1; room 1 #1; store 7 1 0; store 7 2 1; give 0; give 1; move 2 1; "
                      "room 3 #1; room 3 #1; room 3 #1")
        machine.run(5)
        machine.begin_sweep()
        machine.run(2)
        self.assertEqual(machine.taken(), [(96, 97), (97, 98)])
        machine.sweep(4096)
        self.assertEqual(machine.taken(), [(97, 98)])
        self.assertEqual([machine.cell(17), machine.cell(18)],
                         [bare(room(96, 97)), bare(room(97, 98))])
        self.assertEqual(machine.boxes()[:3], [bare(room(96, 97)), room(97, 98), room(97, 98)])
        machine.run(2)
        self.assertEqual([told[1:] for told in machine.given()[2:]], [(96, 97), (98, 99)])
        machine.begin_sweep()
        self.assertEqual(machine.boxes()[1:3], [bare(room(97, 98))] * 2)
        machine.sweep(4096)
        machine.run(1)
        self.assertEqual(machine.boxes()[3], room(97, 98))

    def test_amid_a_sweep_nothing_comes_back(self):
        """What is loaded, moved, sealed and stored behind where the sweep is, has no mark."""
        machine = one("room 0 #1; store 6 -1 0; move 1 0; load 2 7 0; seal 1 2; store 6 -2 1; give 0; "
                      "load 3 6 -1; load 4 6 -2; open 4 2; store 7 1 3; store 7 2 4; move 5 3; "
                      "store 7 3 0; store 7 3 1; back")
        machine.run(7)
        machine.begin_sweep()
        machine.sweep(30)
        machine.run(9)
        self.assertEqual(machine.told(), ("end", bare(room(96, 97))))
        self.assertEqual([held[0] for held in machine.boxes()],
                         [False, False, True, False, False, False, True, True])
        machine.sweep(4096)
        self.assertEqual(marked_cells(machine), [word(3, 4, rights="fco")])

    def test_a_sweep_of_nothing(self):
        machine = done("room 0 #1; store 7 1 0; move 1 7")
        before = all_told(machine)
        machine.begin_sweep()
        machine.sweep(4096)
        self.assertEqual(all_told(machine), before)

    def test_sweeps_are_no_steps_and_go_on_behind_the_end(self):
        machine = one("room 0 #1; store 7 1 0; give 0; back")
        self.assertEqual(machine.run(9), ("end", room(96, 97)))
        machine.begin_sweep()
        self.assertIs(machine.sweep(4096), True)
        self.assertEqual((machine.steps(), machine.touches()), (4, [("a", "write", 17)]))
        self.assertEqual(machine.boxes()[0], bare(room(96, 97)))
        self.assertEqual(machine.told(), ("end", room(96, 97)))
        self.assertEqual(machine.taken(), [])

    def test_kept_boxes_come_back_struck(self):
        machine = two("room 2 #1; load 0 7 1; call 0; load 5 2 0", "give 2; back")
        machine.run(4)
        machine.begin_sweep()
        machine.run(1)
        self.assertEqual(machine.boxes()[2], bare(room(96, 97)))
        self.assertEqual(machine.run(1), ("fault", "mark"))


if __name__ == "__main__":
    unittest.main()
