import random
import unittest

import plainly
from plainly import bits_with, word
from sealedreach.bounds import is_exact, least_bounds
from sealedreach.lesser import entry, lessened, lies_within, narrowed, opened, sealed, walked
from sealedreach.words import fields_of, is_lawful, word_of

TOP = 2 ** 45 - 1
TELL_NOTHING = [TOP, bits_with(step=9, count=16), bits_with(step=1, count=8, at=4095, kind=7),
                bits_with(first=4095, count=2, at=77, rights="rwxco")]


def remade(of, **others):
    """The marked word with other fields told, worked out by the fields alone."""
    names = ("low", "high", "at", "rights", "kind")
    fields = dict(zip(names, fields_of(of)))
    fields.update(others)
    return word_of(tuple(fields[name] for name in names))


def bare(of):
    return False, of[1]


class Same(unittest.TestCase):
    def same(self, told, wanted):
        self.assertEqual(told, wanted)
        self.assertIs(told[0], wanted[0])
        self.assertIsInstance(told, tuple)


class LiesWithin(unittest.TestCase):
    def test_bounds(self):
        other = word(16, 32, rights="rw")
        for low, high, expected in [(16, 32, True), (17, 31, True), (16, 17, True), (31, 32, True),
                                    (15, 31, False), (17, 33, False), (0, 256, False),
                                    (0, 16, False), (32, 48, False), (15, 16, False),
                                    (32, 33, False), (0, 1, False), (15, 17, False)]:
            self.assertIs(lies_within(word(low, high, rights="r"), other), expected, (low, high))

    def test_bounds_told_by_other_steps(self):
        self.assertIs(lies_within(word(258, 276), word(256, 512)), True)
        self.assertIs(lies_within(word(4095, 4096), word(0, 4096)), True)
        self.assertIs(lies_within(word(0, 4096), word(256, 4096)), False)
        self.assertIs(lies_within(word(0, 4096), word(0, 3840)), False)

    def test_all_rights(self):
        for rights in plainly.lawful_rights():
            for others in plainly.lawful_rights():
                expected = all(sign in others for sign in rights)
                told = lies_within(word(3, 9, rights=rights), word(3, 9, rights=others))
                self.assertIs(told, expected, (rights, others))

    def test_all_kinds(self):
        for kind in range(16):
            for other in range(16):
                expected = kind == other or (other == 0 and kind != 2)
                told = lies_within(word(5, 6, rights="x", kind=kind),
                                   word(4, 8, rights="fx", kind=other))
                self.assertIs(told, expected, (kind, other))

    def test_at_is_left_out(self):
        for at in (0, 15, 16, 31, 32, 4095):
            self.assertIs(lies_within(word(16, 32, at), word(16, 32)), True)
            self.assertIs(lies_within(word(16, 32), word(16, 32, at)), True)
            self.assertIs(lies_within(word(15, 31, at), word(16, 32, at)), False)

    def test_within_itself(self):
        for kind in range(16):
            for rights in plainly.lawful_rights():
                one = word(18, 48, 4000, rights, kind)
                self.assertIs(lies_within(one, one), True)

    def test_without_mark_in_nothing(self):
        marked, plain = word(0, 4096, rights="rw"), word(0, 4096, rights="rw", marked=False)
        self.assertIs(lies_within(plain, marked), False)
        self.assertIs(lies_within(marked, plain), False)
        self.assertIs(lies_within(plain, plain), False)
        for bits in TELL_NOTHING:
            self.assertIs(lies_within((False, bits), marked), False)
            self.assertIs(lies_within(marked, (False, bits)), False)


class Walked(Same):
    NUMBERS = (0, 1, -1, 5, -5, 15, 4094, 4095, 4096, 4097, -4095, -4096, -4097, 65535, TOP,
               10 ** 29 + 7, -10 ** 29 - 7)

    def test_at_modulo_4096(self):
        for at in (0, 1, 7, 4094, 4095):
            for number in self.NUMBERS:
                one = word(256, 512, at, "rwl")
                self.same(walked(one, number), word(256, 512, (at + number) % 4096, "rwl"))

    def test_told_ones(self):
        self.same(walked(word(0, 16, 4095), 1), word(0, 16, 0))
        self.same(walked(word(0, 16, 0), -1), word(0, 16, 4095))
        self.same(walked(word(0, 16, 3), 4), word(0, 16, 7))

    def test_keeps_mark_out_of_its_bounds(self):
        one = walked(word(16, 32, 31, "rw"), 1)
        self.same(one, word(16, 32, 32, "rw"))
        self.same(walked(one, -17), word(16, 32, 15, "rw"))

    def test_sealed_loses_mark_and_stays(self):
        for kind in range(1, 16):
            for number in (0, 1, -1, 4096, 10 ** 29):
                one = word(16, 32, 17, "fx", kind)
                self.same(walked(one, number), bare(one))

    def test_without_mark(self):
        for bits in TELL_NOTHING + [0, 4095, 4096, bits_with(at=9, kind=5, rights="co")]:
            for number in self.NUMBERS:
                at = (bits % 4096 + number) % 4096
                self.same(walked((False, bits), number), (False, bits // 4096 * 4096 + at))


class Narrowed(Same):
    def expected(self, one, many, exact):
        low, high, at, _, kind = fields_of(one)
        if kind != 0 or many < 1 or at + many > 4096:
            return bare(one)
        least = least_bounds(at, at + many)
        if least[0] < low or least[1] > high or exact and not is_exact(at, at + many):
            return bare(one)
        return remade(one, low=least[0], high=least[1])

    def test_many(self):
        for low, high in [(0, 16), (3, 19), (2, 20), (0, 24), (0, 4096), (256, 4096), (64, 100),
                          (4080, 4096), (4095, 4096), (7, 8)]:
            for at in {0, 1, 3, low - 1, low, low + 1, low + 3, high - 17, high - 1, high, 4095}:
                for many in (-5, 0, 1, 2, 8, 15, 16, 17, 18, 31, 32, 33, 100, 600, 4095, 4096,
                             4097, 10 ** 29, high - at - 1, high - at, high - at + 1):
                    one = word(low, high, at % 4096, "rwlsf")
                    for exact in (True, False):
                        self.same(narrowed(one, many, exact=exact),
                                  self.expected(one, many, exact))

    def test_just_so_many(self):
        self.same(narrowed(word(0, 256, 40, "rw"), 16), word(40, 56, 40, "rw"))
        self.same(narrowed(word(0, 256, 40, "rw"), 16, exact=True), word(40, 56, 40, "rw"))
        self.same(narrowed(word(0, 256, 41, "rw"), 1, exact=True), word(41, 42, 41, "rw"))
        self.same(narrowed(word(0, 256, 40, "rw"), 18, exact=True), word(40, 58, 40, "rw"))
        self.same(narrowed(word(3, 19, 3), 16, exact=True), word(3, 19, 3))

    def test_not_just_so_many(self):
        one = word(0, 256, 41, "rw")
        self.same(narrowed(one, 17), word(40, 58, 41, "rw"))
        self.same(narrowed(one, 17, exact=False), word(40, 58, 41, "rw"))
        self.same(narrowed(one, 17, exact=True), bare(one))
        self.same(narrowed(word(0, 256, 40), 17), word(40, 58, 40))
        self.same(narrowed(word(0, 256, 40), 17, exact=True), bare(word(0, 256, 40)))
        self.same(narrowed(word(0, 4096, 1), 4095), word(0, 4096, 1))

    def test_out_of_its_own(self):
        for one, many in [(word(16, 32, 16), 17), (word(16, 32, 31), 2), (word(16, 32, 15), 1),
                          (word(16, 32, 15), 2), (word(16, 32, 32), 1), (word(16, 32, 0), 4096),
                          (word(2, 20, 1), 18)]:
            for exact in (True, False):
                self.same(narrowed(one, many, exact=exact), bare(one))
        self.same(narrowed(word(2, 20, 3), 17), word(2, 20, 3))

    def test_no_such_bounds(self):
        for many in (0, -1, -16, 4097, 10 ** 29, -10 ** 29):
            one = word(0, 4096, 5, "rwf")
            self.same(narrowed(one, many), bare(one))
            self.same(narrowed(one, many, exact=True), bare(one))
        self.same(narrowed(word(0, 4096, 4095), 1), word(4095, 4096, 4095))
        self.same(narrowed(word(0, 4096, 4095), 2), bare(word(0, 4096, 4095)))

    def test_all_kinds(self):
        for kind in range(1, 16):
            one = word(0, 256, 3, "fx", kind)
            self.same(narrowed(one, 4), bare(one))
            self.same(narrowed(one, 4, exact=True), bare(one))

    def test_all_rights_stay(self):
        for rights in plainly.lawful_rights():
            self.same(narrowed(word(0, 256, 3, rights), 4), word(3, 7, 3, rights))

    def test_without_mark_as_it_is(self):
        for bits in TELL_NOTHING + [word(0, 256, 3, "rw")[1], 0]:
            for many in (-1, 0, 1, 17, 4097):
                for exact in (True, False):
                    self.same(narrowed((False, bits), many, exact=exact), (False, bits))


class Lessened(Same):
    def test_all_rights(self):
        for rights in plainly.lawful_rights():
            for among in plainly.all_rights()[::7] + ["", "rwlsnfxco", "f", "rwlsn"]:
                kept = "".join(sign for sign in rights if sign in among)
                self.same(lessened(word(48, 84, 7, rights), among), word(48, 84, 7, kept))

    def test_told_ones(self):
        self.same(lessened(word(0, 16, 5, "rwlsf"), "rl"), word(0, 16, 5, "rl"))
        self.same(lessened(word(0, 16, 5, "rl"), "rwlsf"), word(0, 16, 5, "rl"))
        self.same(lessened(word(0, 16, 5, "rl"), "ws"), word(0, 16, 5, ""))
        self.same(lessened(word(0, 16, 5, "rl"), ""), word(0, 16, 5, ""))
        self.same(lessened(word(0, 16, 5, ""), "rw"), word(0, 16, 5, ""))

    def test_all_kinds(self):
        for kind in range(1, 16):
            for rights in ("", "x", "fx", "rw"):
                one = word(0, 16, 5, "fx", kind)
                self.same(lessened(one, rights), bare(one))

    def test_without_mark_as_it_is(self):
        for bits in TELL_NOTHING + [word(0, 256, 3, "rw")[1], 0]:
            for rights in ("", "r", "rwlsnfxco"):
                self.same(lessened((False, bits), rights), (False, bits))


class Sealed(Same):
    def test_each_kind(self):
        for at in range(20):
            one, other = word(64, 100, 70, "rwf"), word(0, 32, at, "c")
            if 3 <= at <= 15:
                self.same(sealed(one, other), word(64, 100, 70, "rwf", at))
            else:
                self.same(sealed(one, other), bare(one))

    def test_rights_of_the_other(self):
        for rights in plainly.lawful_rights():
            one = word(64, 100, 70, "rwf")
            wanted = word(64, 100, 70, "rwf", 5) if "c" in rights else bare(one)
            self.same(sealed(one, word(5, 6, 5, rights)), wanted)

    def test_bounds_of_the_other(self):
        one = word(0, 1, rights="x")
        for low, high, at, expected in [(5, 9, 5, True), (5, 9, 8, True), (5, 9, 9, False),
                                        (5, 9, 4, False), (0, 4096, 3, True), (3, 16, 15, True),
                                        (0, 4096, 2, False), (0, 4096, 16, False),
                                        (0, 4096, 4095, False), (3, 4, 4, False), (4, 5, 3, False)]:
            wanted = word(0, 1, rights="x", kind=at) if expected else bare(one)
            self.same(sealed(one, word(low, high, at, "fco")), wanted)

    def test_other_is_sealed_or_plain(self):
        one = word(0, 1, rights="x")
        for kind in range(1, 16):
            self.same(sealed(one, word(3, 9, 5, "co", kind)), bare(one))
        self.same(sealed(one, word(3, 9, 5, "co", marked=False)), bare(one))
        self.same(sealed(one, (False, 5)), bare(one))
        for bits in TELL_NOTHING:
            self.same(sealed(one, (False, bits)), bare(one))

    def test_sealed_already(self):
        for kind in range(1, 16):
            for at in (3, kind):
                one = word(16, 32, 20, "rw", kind)
                self.same(sealed(one, word(0, 16, at, "co")), bare(one))

    def test_all_rights_can_be_sealed(self):
        for rights in plainly.lawful_rights():
            self.same(sealed(word(9, 12, 4095, rights), word(15, 16, 15, "c")),
                      word(9, 12, 4095, rights, 15))

    def test_by_itself(self):
        self.same(sealed(word(3, 4, 3, "fco"), word(3, 4, 3, "fco")), word(3, 4, 3, "fco", 3))

    def test_without_mark_as_it_is(self):
        for bits in TELL_NOTHING + [word(0, 256, 3, "rw")[1], 0]:
            for other in (word(3, 9, 5, "co"), word(3, 9, 5), (False, 0), (False, TOP)):
                self.same(sealed((False, bits), other), (False, bits))


class Opened(Same):
    def test_each_kind(self):
        for kind in range(16):
            for at in range(18):
                one, other = word(64, 100, 70, "rwf", kind), word(0, 32, at, "fo")
                if kind == at and kind >= 3:
                    self.same(opened(one, other), word(64, 100, 70, "rwf"))
                else:
                    self.same(opened(one, other), bare(one))

    def test_far_only_by_a_far_one(self):
        for rights in plainly.lawful_rights():
            one = word(64, 100, 70, rights, 9)
            self.same(opened(one, word(9, 10, 9, "fo")), word(64, 100, 70, rights))
            self.same(opened(one, word(9, 10, 9, "o")),
                      word(64, 100, 70, rights.replace("f", "")))

    def test_rights_of_the_other(self):
        for rights in plainly.lawful_rights():
            one = word(64, 100, 70, "rw", 5)
            wanted = word(64, 100, 70, "rw") if "o" in rights else bare(one)
            self.same(opened(one, word(5, 6, 5, rights)), wanted)

    def test_bounds_of_the_other(self):
        for low, high, at, expected in [(5, 9, 5, True), (5, 9, 8, True), (5, 9, 9, False),
                                        (5, 9, 4, False), (0, 4096, 3, True), (3, 16, 15, True),
                                        (3, 4, 4, False), (4, 5, 3, False)]:
            one = word(0, 1, rights="x", kind=at)
            wanted = word(0, 1, rights="x") if expected else bare(one)
            self.same(opened(one, word(low, high, at, "fco")), wanted)

    def test_other_is_sealed_or_plain(self):
        one = word(0, 1, rights="x", kind=5)
        for kind in range(1, 16):
            self.same(opened(one, word(3, 9, 5, "co", kind)), bare(one))
        self.same(opened(one, word(3, 9, 5, "co", marked=False)), bare(one))
        self.same(opened(one, (False, 5)), bare(one))
        for bits in TELL_NOTHING:
            self.same(opened(one, (False, bits)), bare(one))

    def test_not_sealed(self):
        for at in (0, 3, 5):
            one = word(0, 16, 5, "rwf")
            self.same(opened(one, word(0, 16, at, "fco")), bare(one))

    def test_back_from_sealed(self):
        for at in range(3, 16):
            for rights in plainly.lawful_rights():
                one, key = word(64, 100, 70, rights), word(3, 16, at, "fco")
                self.same(opened(sealed(one, key), key), one)

    def test_without_mark_as_it_is(self):
        for bits in TELL_NOTHING + [word(0, 256, 3, "rw", 5)[1], 0]:
            for other in (word(3, 9, 5, "co"), word(3, 9, 5), (False, 0), (False, TOP)):
                self.same(opened((False, bits), other), (False, bits))


class Entry(Same):
    def test_all_rights(self):
        for rights in plainly.lawful_rights():
            one = word(32, 50, 33, rights)
            wanted = word(32, 50, 33, rights, 1) if "x" in rights else bare(one)
            self.same(entry(one), wanted)

    def test_all_kinds(self):
        for kind in range(1, 16):
            one = word(32, 50, 33, "fx", kind)
            self.same(entry(one), bare(one))

    def test_without_mark_as_it_is(self):
        for bits in TELL_NOTHING + [word(0, 256, 3, "fx")[1], 0]:
            self.same(entry((False, bits)), (False, bits))


class NothingWider(unittest.TestCase):
    """Point 3 (b), as far as it speaks of words."""

    def is_less(self, one, other):
        low, high, _, rights, kind = fields_of(one)
        within = fields_of(other)
        if not within[0] <= low < high <= within[1] or not set(rights) <= set(within[3]):
            return False
        return kind == within[4] or within[4] == 0 and kind != 2

    def made(self, chance, one, other):
        many = chance.choice((0, 1, 2, 3, 8, 16, 17, 100, 4096, chance.randint(-9, 4100)))
        rights = chance.choice(plainly.all_rights())
        return [walked(one, many), narrowed(one, many), narrowed(one, many, exact=True),
                lessened(one, rights), sealed(one, other), entry(one)]

    def test_by_chance(self):
        chance = random.Random(7)
        marked = 0
        for _ in range(4000):
            one, other = plainly.any_word(chance), plainly.any_word(chance)
            for told in self.made(chance, one, other) + [opened(one, other)]:
                self.assertIs(is_lawful(told), True)
                self.assertTrue(one[0] or not told[0], "a mark from nowhere")
            for told in self.made(chance, one, other):
                if told[0]:
                    marked += 1
                    self.assertTrue(self.is_less(told, one), (told, one))
                    self.assertIs(lies_within(told, one), True)
        self.assertGreater(marked, 2500)

    def test_opened_by_chance(self):
        chance = random.Random(8)
        marked = 0
        for _ in range(4000):
            one = plainly.any_word(chance, marked=True)
            other = word(3, 16, chance.randint(2, 16), chance.choice(("o", "co", "fo", "c")))
            told = opened(one, other)
            if told[0]:
                marked += 1
                kind = fields_of(one)[4]
                self.assertEqual(kind, fields_of(other)[2])
                self.assertTrue(self.is_less(told, remade(one, kind=0)))
            else:
                self.assertEqual(told, bare(one))
        self.assertGreater(marked, 50)

    def test_bits_stay_where_the_mark_goes(self):
        chance = random.Random(9)
        for _ in range(4000):
            one, other = plainly.any_word(chance, marked=True), plainly.any_word(chance)
            for told in self.made(chance, one, other) + [opened(one, other)]:
                if not told[0]:
                    self.assertEqual(told, bare(one))


class HandedIn(Same):
    def test_by_names(self):
        one, key, shut = word(0, 64, 5, "fx"), word(3, 9, 5, "co"), word(0, 64, 5, "fx", 5)
        self.assertIs(lies_within(one=word(5, 6), other=one), True)
        self.assertIs(lies_within(other=word(5, 6), one=one), False)
        self.same(walked(word=one, number=3), walked(one, 3))
        self.same(narrowed(word=one, many=3), narrowed(one, 3))
        self.same(narrowed(exact=True, many=33, word=one), narrowed(one, 33, exact=True))
        self.same(lessened(rights="x", word=one), lessened(one, "x"))
        self.same(sealed(other=key, word=one), shut)
        self.same(opened(other=key, word=shut), word(0, 64, 5, "x"))
        self.same(entry(word=one), word(0, 64, 5, "fx", 1))

    def test_exact_by_its_name_alone(self):
        self.assertRaises(TypeError, narrowed, word(0, 64), 3, True)

    def test_own_kind_of_int(self):
        self.same(walked(word(0, 64, 5), plainly.Counted(3)), word(0, 64, 8))
        self.same(narrowed(word(0, 64, 5), plainly.Counted(3)), word(5, 8, 5))

    def test_asked_twice(self):
        one, key = word(0, 64, 5, "fx"), word(3, 9, 5, "co")
        for _ in range(2):
            self.same(sealed(one, key), word(0, 64, 5, "fx", 5))
            self.same(entry(one), word(0, 64, 5, "fx", 1))
            self.same(walked(one, 1), word(0, 64, 6, "fx"))


if __name__ == "__main__":
    unittest.main()
