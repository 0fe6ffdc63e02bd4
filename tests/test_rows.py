import unittest

import plainly
from plainly import BYS
from sealedreach.errors import NoRows, ReachError
from sealedreach.rows import look_at_rows

GOOD = [("set", 0, 5), ("do", "plus", 0, ("worth", 1)), ("back",)]

# What can stand at each place of a row of each word, told part by part.
BOX, BY, TO, OFFSET, NUMBER = "box", "by", "to", "offset", "number"
RIGHTS, DOING, ASKED, TEST = "rights", "doing", "asked", "test"
PARTS = {
    "set": (BOX, NUMBER), "move": (BOX, BOX), "do": (DOING, BOX, BY), "walk": (BOX, BY),
    "narrow": (BOX, BY), "exact": (BOX, BY), "less": (BOX, RIGHTS), "seal": (BOX, BOX),
    "open": (BOX, BOX), "entry": (BOX,), "ask": (BOX, ASKED, BOX), "here": (BOX,),
    "load": (BOX, BOX, OFFSET), "store": (BOX, OFFSET, BOX), "poke": (BOX, OFFSET, BOX),
    "jump": (TEST, BOX, BY, TO), "go": (TO,), "enter": (BOX,), "call": (BOX,), "back": (),
    "room": (BOX, BY), "give": (BOX,)}
ONE_GOOD = {BOX: 3, BY: ("box", 3), TO: 3, OFFSET: 3, NUMBER: 3, RIGHTS: "rw", DOING: "plus",
            ASKED: "mark", TEST: "same"}
ANY_OTHER = [" ", "-", "3", "#3", "wr", "rr", "box", "worth", "add", "PLUS", "plus ", "back",
             (3,), (3, 3), ("box",), ("box", 3, 3), ("worth", 3, 3), ("box", -1), ("box", 8),
             ("worth", -1), ("worth", 65536), ("worth", 10 ** 29), ("Box", 3), ("number", 3),
             ("offset", 3), ("to", 3), ("rights", "rw"), ("by", ("box", 3)), ("doing", "plus"),
             (3, "box"), ["box", 3], ("box", "3"), ("worth", "3"), ("box", None), ("box", True),
             ("worth", False), ("box", ("box", 3)), (None, 3), (["box"], 3), ({}, 3),
             (plainly.Odd(), 3), ("worth", plainly.Odd()), (True, 3), -10 ** 29, 10 ** 29]
WRONG = {
    BOX: ["", -1, 8, 4095], BY: ["", 0, 3, -1], TO: ["", -1, 4096], OFFSET: ["", -9, 16],
    NUMBER: ["", -1, 65536],
    RIGHTS: [0, 3, "rwlsnfxcor", "q", "plus", "mark"],
    DOING: [0, 3, "", "mark", "same", "not", "xor"],
    ASKED: [0, 3, "", "plus", "same", "row", "count"],
    TEST: [0, 3, "", "plus", "mark", "over", "above"]}
RIGHT = {
    BOX: list(range(8)), BY: BYS + [("box", 3), ("worth", 8)], TO: [0, 1, 63, 64, 4094, 4095],
    OFFSET: list(range(-8, 16)), NUMBER: [0, 1, 7, 8, 4096, 65534, 65535],
    RIGHTS: plainly.all_rights(), DOING: list(plainly.DOINGS), ASKED: list(plainly.ASKED),
    TEST: list(plainly.TESTS)}


def row_with(word, place=None, part=None):
    """A good row of that word, with this part at that place."""
    parts = [ONE_GOOD[what] for what in PARTS[word]]
    if place is not None:
        parts[place] = part
    return (word, *parts)


class Looks(unittest.TestCase):
    def refuse(self, thing, number):
        with self.assertRaises(NoRows) as caught:
            look_at_rows(thing)
        if number is None:
            self.assertIsNone(caught.exception.number)
        self.assertEqual(caught.exception.number, number)
        self.assertIsInstance(caught.exception, ReachError)

    def refuse_row(self, row):
        self.refuse([row], 0)
        self.refuse(GOOD + [row, None], 3)

    def goes(self, row):
        self.assertIsNone(look_at_rows([row]), row)


class Good(Looks):
    def test_each_part_of_each_word(self):
        for word, parts in PARTS.items():
            self.goes(row_with(word))
            for place, what in enumerate(parts):
                for part in RIGHT[what]:
                    self.goes(row_with(word, place, part))

    def test_some_rows(self):
        for row, _ in plainly.some_rows():
            self.goes(row)

    def test_own_kind_of_int(self):
        self.goes(("set", plainly.Counted(3), plainly.Counted(4)))
        self.goes(("go", plainly.Counted(4)))

    def test_one_and_sixty_four(self):
        for many in (1, 2, 63, 64):
            self.assertIsNone(look_at_rows([("go", 5)] * many))

    def test_by_name(self):
        self.assertIsNone(look_at_rows(thing=GOOD))


class Wrong(Looks):
    def test_each_part_of_each_word(self):
        for word, parts in PARTS.items():
            for place, what in enumerate(parts):
                for part in WRONG[what] + ANY_OTHER + plainly.odd_things():
                    self.refuse_row(row_with(word, place, part))

    def test_true_and_false_are_no_numbers(self):
        for word, parts in PARTS.items():
            for place, what in enumerate(parts):
                self.refuse_row(row_with(word, place, True))
                self.refuse_row(row_with(word, place, False))

    def test_too_many_or_too_few_parts(self):
        for word in PARTS:
            good = row_with(word)
            for more in (0, 3, ("box", 3), None, "rw", ""):
                self.refuse_row(good + (more,))
            if len(good) > 1:
                self.refuse_row(good[:-1])
                self.refuse_row(good[:1] + good[2:])

    def test_other_words(self):
        for word in ("", "plus", "minus", "and", "same", "SET", "set ", "stop", "box", "worth",
                     "seals", "by", None, 5, True, b"set", ("set",)):
            self.refuse_row((word,))
            self.refuse_row((word, 3))
            self.refuse_row((word, 3, 3))
            self.refuse_row((word, 3, ("box", 3)))
        for thing in plainly.odd_things():
            self.refuse_row((thing, 3))
            self.refuse_row((thing,))

    def test_no_tuples(self):
        for thing in ["", "back", "set 0 5", 5, ["back"], ["set", 0, 5], {"set": 5}, (),
                      [("back",)], {"back"}, ("back", "back"), (("back",),), ("set 0 5",),
                      ] + plainly.odd_things():
            self.refuse_row(thing)

    def test_the_others_behind_it_are_left_out(self):
        self.refuse([("go", 5), ("go", 4096), ("go", -1)], 1)
        self.refuse([None, None], 0)
        self.refuse([("go", 5)] * 63 + [("go", 4096)], 63)


class NoList(Looks):
    def test_empty_and_sixty_five(self):
        self.refuse([], None)
        self.refuse([("go", 5)] * 65, None)
        self.refuse([("go", 5)] * 4000, None)

    def test_ahead_of_rows_that_are_none(self):
        self.refuse([None] * 65, None)
        self.refuse([("go", 5)] * 64 + [None], None)
        self.refuse((None,), None)

    def test_other_kinds(self):
        for thing in [tuple(GOOD), "back", "", 5, ("back",), dict(enumerate(GOOD)), {("back",)},
                      iter(GOOD), range(3), None]:
            self.refuse(thing, None)
        for thing in plainly.odd_things():
            # A list of something is a list of rows that are none.
            self.refuse(thing, 0 if isinstance(thing, list) and len(thing) > 0 else None)

    def test_lists_of_other_things(self):
        self.refuse([0, 1], 0)
        self.refuse([[]], 0)


class HandedIn(Looks):
    def test_what_is_handed_in_stays(self):
        held = list(GOOD)
        look_at_rows(held)
        self.assertEqual(held, GOOD)
        held = GOOD + [["set", 0, 5]]
        for _ in range(2):
            self.refuse(held, 3)
        self.assertEqual(held, GOOD + [["set", 0, 5]])


if __name__ == "__main__":
    unittest.main()
