import unittest
from bisect import bisect_left

import plainly
from sealedreach.bounds import greatest_high, in_bits, is_exact, least_bounds, room_of
from sealedreach.errors import NoBounds, ReachError

TELLABLE = plainly.tellable()
SMALL = 140
TOLD_OF_BOUNDS = (is_exact, least_bounds, in_bits, greatest_high)


def small_bounds():
    """All bounds within the first cells, and all within the last ones."""
    near = [(low, high) for high in range(1, SMALL + 1) for low in range(high)]
    return near + [(4096 - high, 4096 - low) for low, high in near]


def wide_bounds():
    """Bounds all over, many beside multiples of great steps."""
    ends = sorted({at + by for at in range(0, 4097, 128) for by in (-9, -1, 0, 1, 8)})
    ends = [end for end in ends if 0 <= end <= 4096]
    return [(low, high) for high in ends for low in ends if low < high]


def highs_by_low():
    """For each low the highs, rising, with which it can be told."""
    highs = {}
    for low, high in sorted(TELLABLE):
        highs.setdefault(low, []).append(high)
    return highs


HIGHS = highs_by_low()


def holding(low, high):
    """For each low from which some tellable bounds hold these, the least high that does."""
    told = {}
    for one in range(low + 1):
        if HIGHS[one][-1] >= high:
            told[one] = HIGHS[one][bisect_left(HIGHS[one], high)]
    return told


class Exact(unittest.TestCase):
    def test_small_bounds_one_by_one(self):
        for low, high in small_bounds() + wide_bounds():
            self.assertIs(is_exact(low, high), (low, high) in TELLABLE, (low, high))

    def test_all_that_bits_tell(self):
        for low, high in TELLABLE:
            self.assertIs(is_exact(low, high), True)

    def test_sixteen_and_seventeen_cells(self):
        for low in (0, 1, 2, 7, 2048, 4079):
            self.assertIs(is_exact(low, low + 16), True)
            self.assertIs(is_exact(low, low + 17), False)
        self.assertIs(is_exact(4080, 4096), True)
        self.assertIs(is_exact(4079, 4096), False)

    def test_ends(self):
        self.assertIs(is_exact(0, 4096), True)
        self.assertIs(is_exact(0, 1), True)
        self.assertIs(is_exact(4095, 4096), True)
        self.assertIs(is_exact(0, 4095), False)
        self.assertIs(is_exact(1, 4096), False)
        self.assertIs(is_exact(256, 4096), True)
        self.assertIs(is_exact(2, 20), True)
        self.assertIs(is_exact(1, 19), False)


class Least(unittest.TestCase):
    def check(self, low, high):
        least = least_bounds(low, high)
        self.assertIsInstance(least, tuple)
        self.assertIn(least, TELLABLE)
        for other in holding(low, high).items():
            self.assertTrue(other[0] <= least[0] <= low, (low, high))
            self.assertTrue(high <= least[1] <= other[1], (low, high))

    def test_small_bounds_one_by_one(self):
        for high in range(1, 71):
            for low in range(high):
                self.check(low, high)
                self.check(4096 - high, 4096 - low)

    def test_wide_bounds(self):
        for low in (0, 1, 255, 256, 257, 1000, 3000):
            for high in (low + 1, low + 127, low + 600, 3840, 3841, 4095, 4096):
                self.check(low, high)

    def test_exact_ones_stay(self):
        for bounds in TELLABLE:
            self.assertEqual(least_bounds(*bounds), bounds)

    def test_told_ones(self):
        self.assertEqual(least_bounds(3, 20), (2, 20))
        self.assertEqual(least_bounds(0, 17), (0, 18))
        self.assertEqual(least_bounds(1, 34), (0, 36))
        self.assertEqual(least_bounds(1, 4096), (0, 4096))
        self.assertEqual(least_bounds(0, 4095), (0, 4096))
        self.assertEqual(least_bounds(4079, 4096), (4078, 4096))


class InBits(unittest.TestCase):
    def test_all_that_bits_tell(self):
        for bounds, told in TELLABLE.items():
            self.assertEqual([in_bits(*bounds)], told)

    def test_of_the_least_ones(self):
        for low, high in small_bounds() + wide_bounds():
            told = in_bits(low, high)
            self.assertEqual([told], TELLABLE[least_bounds(low, high)])
            self.assertIsInstance(told, tuple)

    def test_told_ones(self):
        self.assertEqual(in_bits(5, 6), (0, 5, 1))
        self.assertEqual(in_bits(5, 21), (0, 5, 16))
        self.assertEqual(in_bits(5, 22), (1, 2, 9))
        self.assertEqual(in_bits(0, 4096), (8, 0, 16))
        self.assertEqual(in_bits(4095, 4096), (0, 4095, 1))


class Rooms(unittest.TestCase):
    def test_all_numbers_of_cells(self):
        for many in range(1, 4097):
            step = 0
            while 16 * 2 ** step < many:
                step += 1
            size = many
            while size % 2 ** step != 0:
                size += 1
            self.assertEqual(room_of(many), (size, step))
            self.assertIsInstance(room_of(many), tuple)

    def test_told_exactly_from_each_multiple_on(self):
        for many in list(range(1, 140)) + [255, 256, 257, 1000, 2048, 2049, 4095, 4096]:
            size, step = room_of(many)
            for low in range(0, 4096 - size + 1, 2 ** step):
                self.assertIs(is_exact(low, low + size), True)

    def test_told_ones(self):
        self.assertEqual(room_of(1), (1, 0))
        self.assertEqual(room_of(16), (16, 0))
        self.assertEqual(room_of(17), (18, 1))
        self.assertEqual(room_of(32), (32, 1))
        self.assertEqual(room_of(33), (36, 2))
        self.assertEqual(room_of(4095), (4096, 8))
        self.assertEqual(room_of(4096), (4096, 8))

    def test_no_number_of_cells(self):
        for thing in [0, -1, 4097, 8192, 10 ** 29, "", "16", (0, 16), "r"] + plainly.odd_things():
            with self.assertRaises(NoBounds):
                room_of(thing)


class GreatestHigh(unittest.TestCase):
    def check(self, low, high):
        told = max(to for to in HIGHS[low] if to <= high)
        self.assertEqual(greatest_high(low, high), told, (low, high))

    def test_small_bounds_one_by_one(self):
        for low, high in small_bounds():
            self.check(low, high)

    def test_wide_bounds(self):
        for low in (0, 1, 2, 8, 16, 96, 128, 255, 256, 512, 1000, 2048, 3840):
            for high in list(range(low + 1, 4097, 61)) + [3841, 4095, 4096]:
                if low < high:
                    self.check(low, high)

    def test_told_ones(self):
        self.assertEqual(greatest_high(0, 4096), 4096)
        self.assertEqual(greatest_high(0, 4095), 3840)
        self.assertEqual(greatest_high(1, 4096), 17)
        self.assertEqual(greatest_high(2, 4096), 34)
        self.assertEqual(greatest_high(2, 19), 18)
        self.assertEqual(greatest_high(2, 20), 20)
        self.assertEqual(greatest_high(4095, 4096), 4096)


class Refused(unittest.TestCase):
    def refuse(self, low, high):
        for told in TOLD_OF_BOUNDS:
            with self.assertRaises(NoBounds) as caught:
                told(low, high)
            self.assertIsInstance(caught.exception, ReachError)

    def test_low_not_less_than_high(self):
        for low, high in [(0, 0), (5, 5), (6, 5), (4096, 4096), (4096, 0), (17, 0)]:
            self.refuse(low, high)

    def test_beyond_the_ends(self):
        for low, high in [(-1, 5), (-5, -1), (0, 4097), (4096, 4097), (4090, 10 ** 29),
                          (-10 ** 29, 5)]:
            self.refuse(low, high)

    def test_things_of_other_kinds(self):
        for thing in ["", "0", "4096", (0, 1)] + plainly.odd_things():
            self.refuse(thing, 4096)
            self.refuse(0, thing)
            self.refuse(thing, thing)
            self.refuse(thing, -1)

    def test_true_and_false_are_no_numbers(self):
        self.refuse(False, 1)
        self.refuse(0, True)
        self.refuse(True, 2)
        self.assertRaises(NoBounds, room_of, True)


class HandedIn(unittest.TestCase):
    def test_by_names(self):
        for told in TOLD_OF_BOUNDS:
            for low, high in [(3, 40), (2, 20), (0, 4096)]:
                self.assertEqual(told(low=low, high=high), told(low, high))
                self.assertEqual(told(high=high, low=low), told(low, high))
                self.assertEqual(told(low, high=high), told(low, high))
        self.assertEqual(room_of(many=17), room_of(17))

    def test_names_tell_which_is_low(self):
        for told in TOLD_OF_BOUNDS:
            with self.assertRaises(NoBounds):
                told(low=40, high=3)

    def test_own_kind_of_int(self):
        low, high = plainly.Counted(3), plainly.Counted(40)
        for told in TOLD_OF_BOUNDS:
            self.assertEqual(told(low, high), told(3, 40))
        self.assertEqual(room_of(plainly.Counted(17)), (18, 1))

    def test_what_is_handed_in_stays(self):
        held = [0, [16]]
        for told in TOLD_OF_BOUNDS:
            self.assertRaises(NoBounds, told, held, 16)
            self.assertRaises(NoBounds, told, 0, held)
        self.assertRaises(NoBounds, room_of, held)
        self.assertEqual(held, [0, [16]])

    def test_asked_twice(self):
        for told in TOLD_OF_BOUNDS:
            self.assertEqual(told(3, 40), told(3, 40))


if __name__ == "__main__":
    unittest.main()
