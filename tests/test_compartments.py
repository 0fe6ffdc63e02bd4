import unittest

import plainly
from sealedreach.compartments import look_at_compartments
from sealedreach.errors import NoCompartment, ReachError

ROWS = [("set", 0, 5), ("go", 0), ("back",)]
GOOD = ("main", ROWS, (0, 2), 4, (("main", 1), ("side", 0)))
SIDE = ("side", [("back",)], (0,), 1, ())
NAME, ROWS_PART, DOORS, MANY, USES = range(1, 6)
NAMES = ["", "Main", "MAIN", "main1", "ma in", " main", "main ", "main\n", "ninesigns", "a_b", "a-b",
         "1", "-", "\u00e9t\u00e9", "\u03b1", "mainmainmain", "a" * 6000, "\u00aa"]
OTHERS = [0, 5, -1, "", "a", "main", (1,), ("a", 0), ((0,),), [("a", 0)], ["a", 0], b"main",
          {"main": 0}, plainly.Odd(), (plainly.Odd(),), 10 ** 29]


def named(name, rows=1, doors=(0,), many=1, uses=()):
    return name, [("back",)] * rows, doors, many, uses


def with_part(one, place, part):
    """A compartment with another name, rows, doors, many or uses: places from 1 on."""
    return one[:place - 1] + (part,) + one[place:]


class Looks(unittest.TestCase):
    def goes(self, *compartments):
        self.assertIsNone(look_at_compartments(list(compartments)), compartments)

    def refuse(self, thing, number, part):
        with self.assertRaises(NoCompartment) as caught:
            look_at_compartments(thing)
        told = caught.exception
        self.assertEqual((told.number, told.part), (number, part))
        self.assertIsInstance(told, ReachError)
        if number is None:
            self.assertIsNone(told.number)

    def refuse_one(self, part, *compartments):
        """Refused, the first one, wherever it stands."""
        self.refuse(list(compartments), 0, part)
        ahead = [named("zzz", doors=()), named("zz", rows=64, many=64)]
        self.refuse(ahead + list(compartments), 2, part)


class Good(Looks):
    def test_ordinary(self):
        self.goes(GOOD, SIDE)
        self.goes(SIDE, GOOD)
        self.goes(named("a"))

    def test_one_and_eight(self):
        for many in (1, 2, 7, 8):
            self.goes(*[named("abcdefgh"[k]) for k in range(many)])

    def test_names(self):
        for name in ("a", "z", "aa", "eightlet", "abcdefgh", "main", "box", "call"):
            self.goes(named(name))

    def test_rows(self):
        for rows in (1, 2, 63, 64):
            self.goes(named("a", rows=rows, doors=(rows - 1,)))

    def test_doors(self):
        for doors in ((), (0,), (1,), (0, 1), (0, 1, 2), (0, 2), tuple(range(64)), (63,)):
            self.goes(named("a", rows=64, doors=doors))

    def test_many(self):
        for many in (1, 2, 16, 17, 63, 64, plainly.Counted(9)):
            self.goes(named("a", many=many))

    def test_uses(self):
        self.goes(named("a", many=64, uses=(("a", 0),) * 63))
        self.goes(named("a", many=2, uses=(("a", 0),)))
        self.goes(named("a", many=3, uses=(("b", 1), ("b", 0))), named("b", 3, (0, 2)))
        self.goes(named("b", 3, (0, 2)), named("a", many=3, uses=(("b", 1), ("b", 1))))
        self.goes(named("a", 3, (2,), 2, (("a", 0),)))
        for one in range(8):
            uses = tuple((sign, 0) for sign in "abcdefgh")
            self.goes(*[named(sign, many=9, uses=uses if k == one else ())
                        for k, sign in enumerate("abcdefgh")])

    def test_by_name(self):
        self.assertIsNone(look_at_compartments(thing=[GOOD, SIDE]))


class NoList(Looks):
    def test_none_and_nine(self):
        self.refuse([], None, None)
        self.refuse([named("abcdefghi"[k]) for k in range(9)], None, None)
        self.refuse([None] * 9, None, None)

    def test_other_kinds(self):
        for thing in [(GOOD, SIDE), GOOD, "main", 5, {"main": GOOD}, iter([GOOD]), range(1, 3)]:
            self.refuse(thing, None, None)
        for thing in plainly.odd_things():
            # A list of something is a list of compartments that are none.
            if isinstance(thing, list) and len(thing) > 0:
                self.refuse(thing, 0, "form")
            else:
                self.refuse(thing, None, None)


class Form(Looks):
    def test_no_tuple_of_five(self):
        for thing in [(), GOOD[:4], GOOD + (0,), list(GOOD), "abcde", (GOOD,), b"abcde", None,
                      dict(enumerate(GOOD))] + OTHERS + plainly.odd_things():
            self.refuse_one("form", thing)


class Name(Looks):
    def test_no_names(self):
        others = [thing for thing in OTHERS if not isinstance(thing, str)]
        for name in NAMES + others + plainly.odd_things():
            self.refuse_one("name", with_part(SIDE, NAME, name))

    def test_stood_ahead(self):
        self.refuse([named("a"), named("a")], 1, "name")
        self.refuse([named("a"), named("b"), named("a"), named("b")], 2, "name")
        self.refuse([named(sign) for sign in "abcdefga"], 7, "name")
        self.refuse([named("a"), with_part(named("a"), ROWS_PART, None)], 1, "name")


class Rows(Looks):
    def test_no_rows(self):
        for rows in [[], [("back",)] * 65, [None], [("go", 4096)], tuple(ROWS), "back", ROWS + [5],
                     ROWS + [["back"]]] + OTHERS + plainly.odd_things():
            self.refuse_one("rows", with_part(SIDE, ROWS_PART, rows))


class Doors(Looks):
    def test_no_doors(self):
        for doors in [(3,), (-1,), (0, 3), (0, 0), (1, 0), (0, 2, 1), (0, 1, 1), (2, 2), (0, None),
                      (0, "1"), (0, True), (False, 1), (0, 1, 10 ** 29), [0, 1], [], {}, "", None,
                      0, 2, {0: 1}, (0, (1,)), ((),), (False,), (0, plainly.Odd()), range(2)]:
            self.refuse_one("doors", with_part(GOOD, DOORS, doors))
        for doors in plainly.odd_things():
            if not isinstance(doors, tuple):
                self.refuse_one("doors", with_part(GOOD, DOORS, doors))

    def test_last_row_and_behind_it(self):
        for rows in (1, 2, 63, 64):
            self.goes(named("a", rows=rows, doors=(rows - 1,)))
            self.refuse_one("doors", named("a", rows=rows, doors=(rows,)))


class Many(Looks):
    def test_no_such_numbers(self):
        for many in [0, -1, 65, 4096, 10 ** 29, -10 ** 29, "4", "", (4,)] + plainly.odd_things():
            self.refuse_one("many", with_part(SIDE, MANY, many))


class Uses(Looks):
    def test_no_uses(self):
        for uses in [(("side", 1),), (("side", -1),), (("other", 0),), (("", 0),), (("side",),),
                     (("side", 0, 0),), (("side", "0"),), (("side", None),), (("side", False),),
                     ((0, "side"),), ("side", 0), (["side", 0],), [("side", 0)], ((None, 0),),
                     ((["side"], 0),), ((("side",), 0),), (("side", 10 ** 29),), (("Side", 0),),
                     (("side", 0), None), (plainly.Odd(),), ((plainly.Odd(), 0),),
                     (("side", plainly.Odd()),), "", 0, {}, [], None, ((),), "side"]:
            self.refuse([with_part(GOOD, USES, uses), SIDE], 0, "uses")
            self.refuse([SIDE, with_part(GOOD, USES, uses)], 1, "uses")
        for uses in plainly.odd_things():
            if not isinstance(uses, tuple):
                self.refuse_one("uses", with_part(SIDE, USES, uses))

    def test_as_many_as_many_less_one(self):
        for many in (1, 2, 5, 64):
            self.goes(named("a", many=many, uses=(("a", 0),) * (many - 1)))
            self.refuse_one("uses", named("a", many=many, uses=(("a", 0),) * many))

    def test_doors_that_are_not_there(self):
        self.goes(named("a", many=2, uses=(("b", 2),)), named("b", 9, (1, 5, 8)))
        self.refuse([named("a", many=2, uses=(("b", 3),)), named("b", 9, (1, 5, 8))], 0, "uses")
        self.refuse([named("a", many=2, uses=(("b", 0),)), named("b", doors=())], 0, "uses")
        self.refuse([named("a", doors=(), many=2, uses=(("a", 0),))], 0, "uses")
        self.refuse([named("a", many=2, uses=(("b", 0),))], 0, "uses")


class FirstDue(Looks):
    def test_parts_in_their_order(self):
        bad = [None, None, None, None, None]
        good = list(GOOD)
        for k, part in enumerate(("name", "rows", "doors", "many", "uses")):
            one = tuple(good[:k] + bad[k:])
            self.refuse([one, SIDE], 0, part)
            self.refuse([SIDE, one], 1, part)

    def test_the_first_compartment_counts(self):
        for late in [None, (), with_part(SIDE, NAME, ""), with_part(SIDE, MANY, 0)]:
            self.refuse([with_part(GOOD, MANY, 0), late], 0, "many")
            self.refuse([with_part(GOOD, DOORS, None), late], 0, "doors")

    def test_uses_behind_all_others_of_all(self):
        used = with_part(GOOD, USES, None)
        self.refuse([used, None], 1, "form")
        self.refuse([used, with_part(SIDE, NAME, "main")], 1, "name")
        self.refuse([used, with_part(SIDE, ROWS_PART, [])], 1, "rows")
        self.refuse([used, with_part(SIDE, DOORS, (1,))], 1, "doors")
        self.refuse([used, with_part(SIDE, MANY, 65)], 1, "many")
        self.refuse([used, with_part(SIDE, USES, None)], 0, "uses")
        self.refuse([GOOD, with_part(SIDE, USES, None)], 1, "uses")


class HandedIn(Looks):
    def test_what_is_handed_in_stays(self):
        rows = list(ROWS)
        held = [with_part(GOOD, ROWS_PART, rows), SIDE]
        look_at_compartments(held)
        self.assertEqual(held, [GOOD, SIDE])
        self.assertEqual(rows, ROWS)
        held = [GOOD]
        for _ in range(2):
            self.refuse(held, 0, "uses")
        self.assertEqual(held, [GOOD])


if __name__ == "__main__":
    unittest.main()
