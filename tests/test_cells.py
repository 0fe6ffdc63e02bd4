import random
import unittest

import plainly
from plainly import bits_with, word
from sealedreach.cells import Cells
from sealedreach.errors import Fault, NoAddress, NoBounds, NoOffset, NoWord, ReachError
from sealedreach.words import fields_of, is_lawful

TOP = 2 ** 45 - 1
ALL = word(0, 4096, 100, "rwlsnf")
NO_ADDRESSES = [-1, 4096, 10 ** 29, -10 ** 29, "", "5", (5,), (0, 5)]
NO_OFFSETS = [-9, 16, 10 ** 29, -10 ** 29, "", "5", (5,), (0, 5)]
NO_WORDS = [(True, TOP), (True, -1), (False, -1), (False, 2 ** 45), (1, 5), (0, 5), (None, 5),
            [False, 5], [True, 5], (False,), (False, 5, 5), (True, True), (False, False), 0, 5,
            "", "ab", (True, bits_with(rights="rx")), (True, bits_with(step=9, count=16)),
            (False, plainly.Odd()), (plainly.Odd(), 5), (True, bits_with(rights="xc")),
            (True, bits_with(first=4095, count=2)), (False, "5"), (False, (5,))]


def filled():
    """Cells in which some words stand, marked and plain ones."""
    cells = Cells()
    cells.lay(100, (False, TOP))
    cells.lay(101, word(64, 80, rights="rwf"))
    cells.lay(102, word(64, 80, rights="rw"))
    cells.lay(4095, word(0, 1, rights="fx", kind=2))
    cells.lay(0, (False, 7))
    return cells


def all_words(cells):
    return [cells.cell(address) for address in range(4096)]


class Faults(unittest.TestCase):
    def deeds(self, cells, by, offset):
        return (lambda: cells.load(by, offset), lambda: cells.store(by, offset, (False, 3)),
                lambda: cells.poke(by, offset, 3))

    def faults(self, cells, expected, deed):
        before = all_words(cells)
        with self.assertRaises(Fault) as caught:
            deed()
        self.assertEqual(caught.exception.word, expected)
        self.assertIsInstance(caught.exception, ReachError)
        self.assertEqual(all_words(cells), before)

    def all_fault(self, expected, by, offset=0):
        cells = filled()
        for deed in self.deeds(cells, by, offset):
            self.faults(cells, expected, deed)

    def goes(self, by, offset):
        cells = filled()
        for deed in self.deeds(cells, by, offset):
            deed()


class Load(Faults):
    def test_what_stands_there(self):
        cells = filled()
        for offset, at in ((0, 100), (1, 101), (2, 102), (3, 103), (-8, 92), (15, 115)):
            told = cells.load(ALL, offset)
            self.assertEqual(told, cells.cell(at))
            self.assertIs(told[0], cells.cell(at)[0])
            self.assertIsInstance(told, tuple)
        self.assertEqual(cells.load(ALL, 0), (False, TOP))
        self.assertEqual(cells.load(ALL, 2), word(64, 80, rights="rw"))

    def test_mark_goes_without_l(self):
        cells = filled()
        for rights in plainly.lawful_rights():
            by = word(96, 112, 101, rights)
            if "r" in rights:
                there = word(64, 80, rights="rwf", marked="l" in rights)
                self.assertEqual(cells.load(by, 0), there)
                self.assertIs(cells.load(by, 0)[0], "l" in rights)
                self.assertEqual(cells.load(by, -1), (False, TOP))
        self.assertEqual(cells.cell(101), word(64, 80, rights="rwf"))

    def test_all_offsets(self):
        cells = Cells()
        for at in range(92, 116):
            cells.lay(at, (False, at))
        for offset in range(-8, 16):
            self.assertEqual(cells.load(ALL, offset), (False, 100 + offset))


class Store(Faults):
    def test_plain_words(self):
        for rights in ("w", "rw", "wf", "rwlsnf"):
            for bits in (0, 5, TOP, word(64, 80, rights="rw")[1]):
                for offset in (-8, 0, 15):
                    cells = filled()
                    expected = all_words(cells)
                    expected[100 + offset] = (False, bits)
                    self.assertIsNone(cells.store(word(64, 128, 100, rights), offset, (False, bits)))
                    self.assertEqual(all_words(cells), expected)

    def test_marked_words(self):
        for rights in plainly.lawful_rights():
            if "w" in rights:
                for stored in ("", "f", "rw", "rwf", "fx", "x", "co", "fco", "rwlsn", "rwlsnf"):
                    cells, by, what = filled(), word(64, 128, 100, rights), word(5, 9, 7, stored)
                    if "s" not in rights:
                        self.faults(cells, "store", lambda: cells.store(by, 0, what))
                    elif "f" not in stored and "n" not in rights:
                        self.faults(cells, "near", lambda: cells.store(by, 0, what))
                    else:
                        self.assertIsNone(cells.store(by, 0, what))
                        self.assertEqual(cells.cell(100), what)
                        self.assertIs(cells.cell(100)[0], True)

    def test_sealed_ones_are_stored_too(self):
        for kind in range(16):
            cells = Cells()
            cells.store(ALL, 0, word(5, 9, 7, "rwf", kind))
            self.assertEqual(cells.cell(100), word(5, 9, 7, "rwf", kind))

    def test_store_and_near_are_due_last(self):
        cells, near = filled(), word(5, 9, 7, "rw")
        for by, expected in [(word(64, 128, 100, "w", marked=False), "mark"),
                             (word(64, 128, 100, "w", 5), "seal"),
                             (word(64, 128, 100, "r"), "right"),
                             (word(64, 128, 128, "w"), "bounds"),
                             (word(64, 128, 100, "wn"), "store"),
                             (word(64, 128, 100, "w"), "store"),
                             (word(64, 128, 100, "ws"), "near")]:
            self.faults(cells, expected, lambda: cells.store(by, 0, near))

    def test_over_a_marked_word(self):
        cells = filled()
        cells.store(ALL, 1, (False, 9))
        self.assertEqual(cells.cell(101), (False, 9))
        self.assertEqual(cells.marked(), [102, 4095])

    def test_loaded_back(self):
        cells = Cells()
        cells.store(ALL, 15, ALL)
        self.assertEqual(cells.load(ALL, 15), ALL)
        self.assertEqual(cells.marked(), [115])


class Poke(Faults):
    NUMBERS = (0, 1, 4095, 2 ** 28 - 1, 2 ** 28, 2 ** 28 + 5, TOP, 10 ** 29 + 3, -1, -2 ** 28,
               -10 ** 29 - 3)

    def test_lowest_bits_alone(self):
        for there in [(False, 0), (False, TOP), word(64, 80, rights="rwf"), ALL,
                      word(256, 4096, 4095, "fx", 15)]:
            for number in self.NUMBERS:
                cells = filled()
                cells.lay(103, there)
                expected = all_words(cells)
                expected[103] = (False, there[1] // 2 ** 28 * 2 ** 28 + number % 2 ** 28)
                self.assertIsNone(cells.poke(ALL, 3, number))
                self.assertEqual(all_words(cells), expected)
                self.assertIs(cells.cell(103)[0], False)

    def test_each_bit(self):
        for k in range(45):
            cells = Cells()
            cells.poke(ALL, 0, 2 ** k)
            self.assertEqual(cells.cell(100), (False, 2 ** k if k < 28 else 0))

    def test_mark_goes_though_bits_stay(self):
        cells = filled()
        cells.poke(ALL, 1, cells.cell(101)[1])
        self.assertEqual(cells.cell(101), word(64, 80, rights="rwf", marked=False))
        self.assertEqual(cells.marked(), [102, 4095])

    def test_w_is_enough(self):
        for rights in plainly.lawful_rights():
            if "w" in rights:
                cells = filled()
                cells.poke(word(64, 128, 100, rights), 1, 0)
                self.assertIs(cells.cell(101)[0], False)


class FirstDue(Faults):
    def test_mark(self):
        for by in (word(64, 128, 100, "rwlsnf", marked=False), (False, 0), (False, TOP),
                   word(64, 128, 4000, "x", 5, marked=False)):
            self.all_fault("mark", by)

    def test_seal(self):
        for kind in range(1, 16):
            self.all_fault("seal", word(64, 128, 100, "rwlsnf", kind))
            self.all_fault("seal", word(64, 128, 4000, "", kind))

    def test_right(self):
        for rights in plainly.lawful_rights():
            by, cells = word(64, 128, 100, rights), filled()
            load, store, poke = self.deeds(cells, by, 0)
            if "r" not in rights:
                self.faults(cells, "right", load)
            if "w" not in rights:
                self.faults(cells, "right", store)
                self.faults(cells, "right", poke)
        self.all_fault("right", word(64, 128, 4000, "lsnf"))

    def test_bounds(self):
        for at, offset in [(63, 0), (128, 0), (64, -1), (127, 1), (71, -8), (113, 15), (0, 15),
                           (4095, -8), (4095, 1), (4095, 0), (0, -1)]:
            self.all_fault("bounds", word(64, 128, at, "rwlsnf"), offset)

    def test_just_within_bounds(self):
        for at, offset in [(64, 0), (127, 0), (63, 1), (128, -1), (72, -8), (112, 15), (49, 15),
                           (135, -8), (60, 4), (130, -3)]:
            self.goes(word(64, 128, at, "rwlsnf"), offset)

    def test_not_modulo_4096(self):
        self.all_fault("bounds", word(0, 4096, 4095, "rwlsnf"), 1)
        self.all_fault("bounds", word(0, 4096, 4081, "rwlsnf"), 15)
        self.all_fault("bounds", word(0, 4096, 0, "rwlsnf"), -1)
        self.all_fault("bounds", word(0, 4096, 7, "rwlsnf"), -8)
        self.goes(word(0, 4096, 4080, "rwlsnf"), 15)
        self.goes(word(0, 4096, 8, "rwlsnf"), -8)

    def test_offsets_ahead_of_faults(self):
        for by in (ALL, (False, 0), word(64, 128, 100, "rw", 5), word(64, 128, 4000)):
            for thing in NO_OFFSETS + plainly.odd_things():
                cells = filled()
                before = all_words(cells)
                for deed in self.deeds(cells, by, thing):
                    with self.assertRaises(NoOffset) as caught:
                        deed()
                    self.assertIsInstance(caught.exception, ReachError)
                self.assertEqual(all_words(cells), before)

    def test_offsets_about_the_ends(self):
        for offset in (-8, 15, plainly.Counted(-8), plainly.Counted(15)):
            self.goes(ALL, offset)
        for offset in (-9, 16):
            for deed in self.deeds(Cells(), ALL, offset):
                self.assertRaises(NoOffset, deed)


class Driver(unittest.TestCase):
    def refuses(self, error, cells, deed):
        before = all_words(cells)
        with self.assertRaises(error) as caught:
            deed()
        self.assertIsInstance(caught.exception, ReachError)
        self.assertEqual(all_words(cells), before)

    def test_at_first_plain_0(self):
        cells = Cells()
        for told in all_words(cells):
            self.assertEqual(told, (False, 0))
            self.assertIs(told[0], False)
            self.assertIsInstance(told, tuple)
        self.assertEqual(cells.marked(), [])

    def test_lay_and_cell(self):
        for address in (0, 1, 2048, 4094, 4095, plainly.Counted(9)):
            for what in [(False, 0), (False, TOP), (True, 0), ALL, word(0, 1, rights="fx", kind=2),
                         (False, bits_with(step=9)), (False, bits_with(rights="rx"))]:
                cells = filled()
                expected = all_words(cells)
                expected[address] = what
                self.assertIsNone(cells.lay(address, what))
                self.assertEqual(cells.cell(address), what)
                self.assertEqual(all_words(cells), expected)

    def test_no_address(self):
        cells = filled()
        for thing in NO_ADDRESSES + plainly.odd_things():
            self.refuses(NoAddress, cells, lambda: cells.lay(thing, (False, 3)))
            self.refuses(NoAddress, cells, lambda: cells.cell(thing))

    def test_no_word(self):
        cells = filled()
        for thing in NO_WORDS + plainly.odd_things():
            self.refuses(NoWord, cells, lambda: cells.lay(5, thing))

    def test_no_address_ahead_of_no_word(self):
        cells = filled()
        for thing in NO_WORDS[:5] + plainly.odd_things():
            self.refuses(NoAddress, cells, lambda: cells.lay(4096, thing))
            self.refuses(NoAddress, cells, lambda: cells.lay(None, thing))

    def test_clear(self):
        for low, high in [(0, 4096), (100, 102), (101, 102), (0, 1), (4095, 4096), (1, 4095),
                          (3, 90), (0, 101)]:
            cells = filled()
            expected = all_words(cells)
            expected[low:high] = [(False, 0)] * (high - low)
            self.assertIsNone(cells.clear(low, high))
            self.assertEqual(all_words(cells), expected)

    def test_marked(self):
        cells = filled()
        self.assertEqual(cells.marked(), [101, 102, 4095])
        self.assertIsInstance(cells.marked(), list)
        for low, high, expected in [(0, 4096, [101, 102, 4095]), (101, 102, [101]),
                                    (102, 4095, [102]), (102, 4096, [102, 4095]), (0, 101, []),
                                    (103, 4095, []), (4095, 4096, [4095]), (100, 103, [101, 102])]:
            self.assertEqual(cells.marked(low, high), expected)
            self.assertEqual(cells.marked(high=high, low=low), expected)
        self.assertEqual(cells.marked(102), [102, 4095])
        self.assertEqual(cells.marked(low=102), [102, 4095])
        self.assertEqual(cells.marked(high=102), [101])

    def test_marked_rises_whatever_was_laid_first(self):
        cells = Cells()
        for address in (4000, 3, 4095, 0, 17):
            cells.lay(address, ALL)
        self.assertEqual(cells.marked(), [0, 3, 17, 4000, 4095])

    def test_no_bounds(self):
        cells = filled()
        for low, high in [(0, 0), (5, 5), (6, 5), (-1, 5), (0, 4097), (4096, 4096), (4096, 4097),
                          (0, 10 ** 29), (-10 ** 29, 5)]:
            self.refuses(NoBounds, cells, lambda: cells.clear(low, high))
            self.refuses(NoBounds, cells, lambda: cells.marked(low, high))
        for thing in ["", "5", (5,), (0, 5)] + plainly.odd_things():
            for deed in (lambda: cells.clear(thing, 4096), lambda: cells.clear(0, thing),
                         lambda: cells.clear(thing, thing), lambda: cells.marked(thing, 4096),
                         lambda: cells.marked(0, thing), lambda: cells.marked(thing),
                         lambda: cells.marked(high=thing)):
                self.refuses(NoBounds, cells, deed)
        self.refuses(NoBounds, cells, lambda: cells.marked(4096))
        self.refuses(NoBounds, cells, lambda: cells.marked(high=0))


class Alike(unittest.TestCase):
    def test_alike(self):
        self.assertTrue(Cells() == Cells())
        self.assertTrue(filled() == filled())
        self.assertIs(filled() == filled(), True)
        self.assertFalse(filled() != filled())
        self.assertFalse(filled() == Cells())
        self.assertIs(filled() == Cells(), False)
        self.assertTrue(filled() != Cells())

    def test_each_address_counts(self):
        for address in (0, 1, 500, 4094, 4095):
            for what in ((False, 1), (True, 0)):
                cells = filled()
                cells.lay(address, what)
                self.assertEqual(cells == filled(), False)

    def test_a_mark_counts(self):
        one, other = Cells(), Cells()
        one.lay(5, (True, 9))
        other.lay(5, (False, 9))
        self.assertFalse(one == other)
        self.assertFalse(one == Cells())

    def test_whatever_the_way_there(self):
        cells = filled()
        cells.clear(0, 4096)
        self.assertTrue(cells == Cells())
        cells.store(ALL, 0, ALL)
        cells.poke(ALL, 0, 0)
        cells.store(ALL, 0, (False, 0))
        self.assertTrue(cells == Cells())

    def test_like_nothing_else(self):
        class Yes:
            def __eq__(self, other):
                return True

        cells = Cells()
        for thing in plainly.odd_things() + ["", 0, all_words(cells), Cells, Yes()]:
            self.assertIs(cells == thing, False)
            self.assertIs(cells != thing, True)

    def test_twin_goes_on_by_itself(self):
        cells = filled()
        twin = cells.twin()
        self.assertIsInstance(twin, Cells)
        self.assertIsNot(twin, cells)
        self.assertTrue(twin == cells)
        before = all_words(cells)
        twin.lay(7, ALL)
        twin.clear(100, 102)
        twin.store(ALL, 0, (False, 8))
        twin.poke(ALL, 2, 8)
        self.assertEqual(all_words(cells), before)
        self.assertFalse(twin == cells)
        later = all_words(twin)
        cells.clear(0, 4096)
        self.assertEqual(all_words(twin), later)

    def test_two_cells_are_apart(self):
        one, other = Cells(), Cells()
        one.lay(5, ALL)
        self.assertEqual(other.cell(5), (False, 0))


class HandedIn(unittest.TestCase):
    def test_by_names(self):
        cells = Cells()
        cells.lay(word=ALL, address=103)
        self.assertEqual(cells.cell(address=103), ALL)
        self.assertEqual(cells.load(offset=3, word=ALL), ALL)
        cells.store(what=(False, 9), offset=2, word=ALL)
        self.assertEqual(cells.cell(102), (False, 9))
        cells.poke(number=7, word=ALL, offset=3)
        self.assertEqual(cells.cell(103), (False, ALL[1] // 2 ** 28 * 2 ** 28 + 7))
        cells.clear(high=103, low=102)
        self.assertEqual(cells.cell(102), (False, 0))

    def test_told_lists_are_new(self):
        cells = filled()
        cells.marked().clear()
        cells.marked().append(5)
        self.assertEqual(cells.marked(), [101, 102, 4095])
        held = cells.marked()
        cells.clear(0, 4096)
        self.assertEqual(held, [101, 102, 4095])

    def test_asking_changes_nothing(self):
        cells = filled()
        for _ in range(2):
            self.assertEqual(cells.load(word(96, 112, 101, "r"), 0)[0], False)
            self.assertEqual(cells.marked(), [101, 102, 4095])
            self.assertTrue(cells == filled())


class NothingWider(unittest.TestCase):
    """Point 3 (b): no marked word comes of cells but one that was there."""

    def test_by_chance(self):
        chance = random.Random(11)
        cells, there, done = Cells(), set(), 0
        for address in range(0, 32, 3):
            what = plainly.any_word(chance)
            cells.lay(address, what)
            there.add(what)
        for _ in range(6000):
            by = chance.choice(([plainly.any_word(chance)] + [word(0, 32, 8, "rwlsn")] * 3))
            what, offset = plainly.any_word(chance), chance.randint(-8, 15)
            try:
                deed = chance.randrange(3)
                if deed == 0:
                    told = cells.load(by, offset)
                    self.assertTrue(not told[0] or told in there)
                elif deed == 1:
                    cells.store(by, offset, what)
                    there.add(what)
                else:
                    cells.poke(by, offset, chance.randrange(2 ** 45))
                done += 1
            except Fault:
                continue
            for address in cells.marked():
                self.assertIn(cells.cell(address), there)
                self.assertIs(is_lawful(cells.cell(address)), True)
                self.assertIsNotNone(fields_of(cells.cell(address)))
        self.assertGreater(done, 3000)


if __name__ == "__main__":
    unittest.main()
