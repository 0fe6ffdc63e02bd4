import unittest

import plainly
from plainly import bits_with
from sealedreach.errors import NoFields, ReachError
from sealedreach.words import RIGHTS, fields_of, is_lawful, is_rights, is_word, plain, word_of

TOP = 2 ** 45 - 1
NO_WORDS = [
    (True, -1), (False, -1), (True, 2 ** 45), (False, 2 ** 45), (True, 10 ** 29),
    (1, 5), (0, 5), (None, 5), ("", 5), ("True", 5), (True, True), (False, False), (False, True),
    (True, None), (True, "5"), (True, (5,)), (5, True), [True, 5], [False, 5], {True: 5},
    (True,), (5,), (True, 5, 5), (False, 5, None), (True, 5, "", 0, 0), ((True, 5),), "ab",
    (plainly.Odd(), 5), (True, plainly.Odd()), "", "rw", 0, 5, 1.5]


class IsWord(unittest.TestCase):
    def test_ordinary(self):
        for bits in (0, 1, 4095, 2 ** 28, 2 ** 44, TOP):
            self.assertIs(is_word((True, bits)), True)
            self.assertIs(is_word((False, bits)), True)
        self.assertIs(is_word((True, plainly.Counted(5))), True)

    def test_also_where_bits_tell_nothing(self):
        self.assertIs(is_word((True, bits_with(step=9, count=16))), True)
        self.assertIs(is_word((True, bits_with(rights="rx"))), True)

    def test_none_of_these(self):
        for thing in NO_WORDS + plainly.odd_things():
            self.assertIs(is_word(thing), False)


class IsRights(unittest.TestCase):
    def test_signs(self):
        self.assertEqual(RIGHTS, "rwlsnfxco")

    def test_all_in_order(self):
        for rights in plainly.all_rights():
            self.assertIs(is_rights(rights), True)

    def test_out_of_order_or_twice(self):
        for rights in plainly.all_rights():
            if len(rights) > 1:
                self.assertIs(is_rights(rights[::-1]), False)
            for sign in rights:
                self.assertIs(is_rights(rights + sign), False)
                self.assertIs(is_rights(sign + rights), False)

    def test_unknown_signs(self):
        for sign in " -#aRWXC~z\n":
            self.assertIs(is_rights(sign), False)
            self.assertIs(is_rights("r" + sign), False)
            self.assertIs(is_rights(sign + "w"), False)
            self.assertIs(is_rights("r" + sign + "w"), False)

    def test_things_of_other_kinds(self):
        for thing in [0, 5, ("r", "w"), ["r"], {"r": 1}, ("rw",), b"r"] + plainly.odd_things():
            self.assertIs(is_rights(thing), False)


class IsLawful(unittest.TestCase):
    def test_rights_beside_one_another(self):
        for rights in plainly.all_rights():
            bits = bits_with(rights=rights)
            self.assertIs(is_lawful((True, bits)), plainly.go_together(rights), rights)
            self.assertIs(is_lawful((False, bits)), True)

    def test_told_pairs(self):
        for sign in "rwlsn":
            for other in "xco":
                self.assertIs(is_lawful((True, bits_with(rights=sign + other))), False)
                self.assertIs(is_lawful((False, bits_with(rights=sign + other))), True)
        for rights in ("xc", "xo", "xco", "fxc"):
            self.assertIs(is_lawful((True, bits_with(rights=rights))), False)
            self.assertIs(is_lawful((False, bits_with(rights=rights))), True)
        for rights in ("", "f", "co", "fco", "c", "o", "x", "fx", "rwlsn", "rwlsnf"):
            self.assertIs(is_lawful((True, bits_with(rights=rights))), True)

    def test_steps_and_counts(self):
        for step in range(16):
            for count in range(1, 17):
                for first in (0, 1, 7, 8, 16, 4095):
                    bits = bits_with(step=step, count=count, first=first, rights="rw")
                    expected = plainly.tells(step, first, count)
                    self.assertIs(is_lawful((True, bits)), expected, (step, count, first))
                    self.assertIs(is_lawful((False, bits)), True)

    def test_eight_and_nine_above_step_0(self):
        for step in range(1, 9):
            self.assertIs(is_lawful((True, bits_with(step=step, count=8))), False)
            self.assertIs(is_lawful((True, bits_with(step=step, count=9))), True)
        self.assertIs(is_lawful((True, bits_with(step=9, count=9))), False)
        self.assertIs(is_lawful((True, bits_with(step=0, count=8))), True)

    def test_up_to_the_last_cell_and_just_above(self):
        for step in range(9):
            for count in range(2 if step == 0 else 9, 17):
                first = 4096 // 2 ** step - count
                self.assertIs(is_lawful((True, bits_with(step=step, count=count, first=first))),
                              True)
                above = bits_with(step=step, count=count, first=first + 1)
                self.assertIs(is_lawful((True, above)), False)
                self.assertIs(is_lawful((False, above)), True)
        self.assertIs(is_lawful((True, bits_with(count=1, first=4095))), True)

    def test_any_kind_and_any_at(self):
        for kind in range(16):
            for at in (0, 1, 100, 4095):
                self.assertIs(is_lawful((True, bits_with(at=at, kind=kind, rights="l"))), True)

    def test_without_mark_all_words(self):
        for bits in (0, 1, TOP, TOP - 1, 2 ** 31):
            self.assertIs(is_lawful((False, bits)), True)
        self.assertIs(is_lawful((True, TOP)), False)
        self.assertIs(is_lawful((True, 0)), True)

    def test_none_of_these(self):
        for thing in NO_WORDS + plainly.odd_things():
            self.assertIs(is_lawful(thing), False)


class FieldsOf(unittest.TestCase):
    def test_told_ones(self):
        self.assertEqual(fields_of((True, 0)), (0, 1, 0, "", 0))
        bits = 5 + 2 * 2 ** 12 + 8 * 2 ** 24 + 1 * 2 ** 28 + 35 * 2 ** 32 + 3 * 2 ** 41
        self.assertEqual(fields_of((True, bits)), (4, 22, 5, "rwf", 3))
        self.assertEqual(fields_of((False, bits)), (4, 22, 5, "rwf", 3))

    def test_each_right_has_its_bit(self):
        for k, sign in enumerate("rwlsnfxco"):
            self.assertEqual(fields_of((False, 2 ** (32 + k))), (0, 1, 0, sign, 0))

    def test_all_rights(self):
        for rights in plainly.all_rights():
            bits = bits_with(rights=rights)
            self.assertEqual(fields_of((False, bits)), (0, 1, 0, rights, 0))
            self.assertEqual(fields_of((True, bits)), (0, 1, 0, rights, 0))

    def test_kinds_and_ats(self):
        for kind in range(16):
            for at in (0, 1, 2048, 4095):
                bits = bits_with(at=at, kind=kind, first=4095, rights="o")
                self.assertEqual(fields_of((True, bits)), (4095, 4096, at, "o", kind))

    def test_steps_and_counts(self):
        for step in range(16):
            for count in range(1, 17):
                for first in (0, 1, 7, 8, 16, 4095):
                    bits = bits_with(step=step, count=count, first=first, at=77)
                    expected = None
                    if plainly.tells(step, first, count):
                        low = first * 2 ** step
                        expected = (low, low + count * 2 ** step, 77, "", 0)
                    for marked in (True, False):
                        self.assertEqual(fields_of((marked, bits)), expected)

    def test_up_to_the_last_cell_and_just_above(self):
        for step in range(9):
            for count in range(2 if step == 0 else 9, 17):
                first = 4096 // 2 ** step - count
                bits = bits_with(step=step, count=count, first=first)
                self.assertEqual(fields_of((True, bits)), (4096 - count * 2 ** step, 4096, 0, "", 0))
                bits = bits_with(step=step, count=count, first=first + 1)
                self.assertIsNone(fields_of((True, bits)))

    def test_is_a_tuple(self):
        self.assertIsInstance(fields_of((True, 0)), tuple)


class WordOf(unittest.TestCase):
    def test_told_one(self):
        bits = 5 + 2 * 2 ** 12 + 8 * 2 ** 24 + 1 * 2 ** 28 + 35 * 2 ** 32 + 3 * 2 ** 41
        fields = (4, 22, 5, "rwf", 3)
        self.assertEqual(word_of(fields), (True, bits))
        self.assertEqual(word_of(fields, marked=True), (True, bits))
        self.assertEqual(word_of(fields, marked=False), (False, bits))
        for word in (word_of(fields), word_of(fields, marked=True), word_of(fields, marked=False)):
            self.assertIsInstance(word, tuple)
            self.assertIs(is_word(word), True)

    def test_there_and_back_all_bounds(self):
        for (low, high), told in plainly.tellable().items():
            step, first, count = told[0]
            fields = (low, high, 4095, "f", 15)
            word = word_of(fields)
            bits = bits_with(at=4095, first=first, count=count, step=step, rights="f", kind=15)
            self.assertEqual(word, (True, bits))
            self.assertEqual(fields_of(word), fields)

    def test_there_and_back_all_rights(self):
        for rights in plainly.all_rights():
            fields = (256, 4096, 7, rights, 2)
            for marked in (True, False):
                if plainly.go_together(rights):
                    word = word_of(fields, marked=marked)
                    self.assertEqual(fields_of(word), fields)
                    self.assertIs(word[0], marked)
                    self.assertIs(is_lawful(word), True)
                else:
                    self.assertRaises(NoFields, word_of, fields, marked=marked)

    def test_there_and_back_kinds_and_ats(self):
        for kind in range(16):
            for at in (0, 1, 2048, 4095):
                fields = (0, 16, at, "rwlsn", kind)
                self.assertEqual(fields_of(word_of(fields)), fields)
                self.assertEqual(fields_of(word_of(fields, marked=False)), fields)

    def test_back_and_there(self):
        for bits in (0, bits_with(at=9, first=3, count=12, step=4, rights="fco", kind=9),
                     bits_with(at=4095, first=4095, rights="rwlsnf", kind=15)):
            self.assertEqual(word_of(fields_of((True, bits))), (True, bits))
            self.assertEqual(word_of(fields_of((False, bits)), marked=False), (False, bits))

    def refuse(self, fields):
        for named in ({}, {"marked": True}, {"marked": False}):
            with self.assertRaises(NoFields) as caught:
                word_of(fields, **named)
            self.assertIsInstance(caught.exception, ReachError)

    def test_no_such_tuple(self):
        good = (0, 16, 5, "rw", 0)
        word_of(good)
        for thing in [list(good), good[:4], good + (0,), (good,), "", "abcde", 5, (True, 5),
                      dict(enumerate(good)), ((0, 16), 5, "rw", 0)] + NO_WORDS:
            self.refuse(thing)
        for thing in plainly.odd_things():
            self.refuse(thing)
            for k in range(5):
                self.refuse(good[:k] + (thing,) + good[k + 1:])
            self.refuse((thing,) * 5)

    def test_texts_and_numbers_in_the_stead_of_one_another(self):
        good = (0, 16, 5, "rw", 0)
        for k in (0, 1, 2, 4):
            self.refuse(good[:k] + ("3",) + good[k + 1:])
            self.refuse(good[:k] + ("",) + good[k + 1:])
        self.refuse((0, 16, 5, 3, 0))
        self.refuse((0, 16, 5, 0, 0))

    def test_true_and_false_are_no_numbers(self):
        for fields in [(False, 16, 5, "rw", 0), (True, 16, 5, "rw", 0), (0, True, 5, "rw", 0),
                       (0, 16, True, "rw", 0), (0, 16, False, "rw", 0), (0, 16, 5, "rw", True),
                       (0, 16, 5, "rw", False)]:
            self.refuse(fields)

    def test_beyond_the_ends(self):
        for low, high in [(-1, 5), (5, 5), (6, 5), (4096, 4096), (4090, 4097), (4096, 4097),
                          (0, 10 ** 29), (0, 0)]:
            self.refuse((low, high, 0, "rw", 0))
        for at in (-1, 4096, 10 ** 29):
            self.refuse((0, 16, at, "rw", 0))
        for kind in (-1, 16, 10 ** 29):
            self.refuse((0, 16, 0, "rw", kind))

    def test_bounds_not_told_exactly(self):
        for low, high in [(0, 17), (1, 19), (0, 4095), (1, 4096), (4079, 4096), (2, 36)]:
            self.refuse((low, high, 0, "rw", 0))

    def test_no_rights(self):
        for rights in ("wr", "rr", "q", "R", "-", " ", "rw ", "fcox"):
            self.refuse((0, 16, 0, rights, 0))

    def test_not_lawful_with_the_mark(self):
        for rights in ("rx", "nx", "wc", "so", "lco", "xc", "xo", "rwlsnfxco"):
            self.refuse((0, 16, 0, rights, 0))

    def test_which_is_told(self):
        self.assertIs(word_of((0, 16, 0, "", 0))[0], True)
        self.assertIs(word_of((0, 16, 0, "", 0), marked=False)[0], False)


class Plain(unittest.TestCase):
    def test_told_ones(self):
        for number, bits in [(0, 0), (1, 1), (TOP, TOP), (TOP + 1, 0), (TOP + 8, 7), (-1, TOP),
                             (-TOP, 1), (-TOP - 1, 0), (-TOP - 2, TOP)]:
            word = plain(number)
            self.assertEqual(word, (False, bits))
            self.assertIs(word[0], False)
            self.assertIsInstance(word, tuple)

    def test_thirty_figures(self):
        for number in (10 ** 30 - 1, -10 ** 30 + 1, 123456789012345678901234567890,
                       -123456789012345678901234567890):
            word = plain(number)
            self.assertIs(is_word(word), True)
            self.assertIs(is_lawful(word), True)
            self.assertIs(word[0], False)
            self.assertEqual((number - word[1]) % 2 ** 45, 0)

    def test_all_bits_stay(self):
        for k in range(45):
            self.assertEqual(plain(2 ** k), (False, 2 ** k))


class HandedIn(unittest.TestCase):
    def test_by_names(self):
        word = (True, bits_with(at=9, first=3, count=12, step=4, rights="fco", kind=9))
        fields = (48, 240, 9, "fco", 9)
        self.assertIs(is_word(thing=word), True)
        self.assertIs(is_word(thing=5), False)
        self.assertIs(is_rights(thing="rw"), True)
        self.assertIs(is_rights(thing="wr"), False)
        self.assertIs(is_lawful(thing=word), True)
        self.assertIs(is_lawful(thing=None), False)
        self.assertEqual(fields_of(word=word), fields)
        self.assertEqual(word_of(fields=fields), word)
        self.assertEqual(word_of(fields=fields, marked=False), (False, word[1]))
        self.assertEqual(word_of(marked=False, fields=fields), (False, word[1]))
        self.assertEqual(word_of(marked=True, fields=fields), word)
        self.assertEqual(plain(number=-1), plain(-1))

    def test_what_is_handed_in_stays(self):
        held = [0, 16, [5], "rw", 0]
        for asked in (is_word, is_rights, is_lawful):
            self.assertIs(asked(held), False)
            self.assertIs(asked((True, held)), False)
        self.assertRaises(NoFields, word_of, held)
        self.assertRaises(NoFields, word_of, (0, 16, held, "rw", 0))
        self.assertEqual(held, [0, 16, [5], "rw", 0])

    def test_asked_twice(self):
        fields = (0, 16, 5, "rw", 0)
        self.assertEqual(word_of(fields), word_of(fields))
        self.assertEqual(fields_of((True, 5)), fields_of((True, 5)))
        self.assertEqual(fields, (0, 16, 5, "rw", 0))


if __name__ == "__main__":
    unittest.main()
