import unittest

import plainly
from sealedreach import errors
from sealedreach.errors import (
    Fault, NoAddress, NoBounds, NoCompartment, NoDeeds, NoFields, NoHands, NoLine, NoName,
    NoNumber, NoOffset, NoRows, NoRule, NoSweep, NoText, NoWord, ReachError, Sweeping, TooMany)

OF_ONE = [(NoFields, "text"), (NoBounds, "text"), (NoOffset, "text"), (NoAddress, "text"),
          (NoWord, "text"), (NoHands, "text"), (NoRule, "text"), (NoNumber, "text"),
          (NoLine, "text"), (Fault, "word"), (NoRows, "number"), (NoText, "number"),
          (NoDeeds, "number"), (TooMany, "size"), (NoName, "name"), (Sweeping, "text"),
          (NoSweep, "text")]
ALL = [one for one, _ in OF_ONE] + [NoCompartment]
APART = {TooMany: OverflowError, NoName: KeyError, Sweeping: RuntimeError, NoSweep: LookupError}


def things():
    return ["", "mark", "form", 0, 7, -1, 10 ** 29, ("a", 1), [1, [2]]] + plainly.odd_things()


class Fields(unittest.TestCase):
    def test_of_one_thing_of_any_kind(self):
        for one, field in OF_ONE:
            for thing in things():
                self.assertIs(getattr(one(thing), field), thing)
                self.assertIs(getattr(one(**{field: thing}), field), thing)

    def test_compartment_keeps_both(self):
        for number in things():
            for part in things():
                for made in (NoCompartment(number, part), NoCompartment(part=part, number=number)):
                    self.assertIs(made.number, number)
                    self.assertIs(made.part, part)

    def test_each_object_keeps_its_own(self):
        first, second = Fault("mark"), Fault("seal")
        self.assertEqual((first.word, second.word), ("mark", "seal"))

    def test_raised_as_made(self):
        for one, field in OF_ONE:
            with self.assertRaises(one) as caught:
                raise one("told")
            self.assertEqual(getattr(caught.exception, field), "told")
        with self.assertRaises(NoCompartment) as caught:
            raise NoCompartment(3, "uses")
        self.assertEqual((caught.exception.number, caught.exception.part), (3, "uses"))

    def test_list_handed_in_stays(self):
        held = [1, [2]]
        for one, _ in OF_ONE:
            one(held)
        NoCompartment(held, held)
        self.assertEqual(held, [1, [2]])

    def test_made_of_so_many_things(self):
        for one, _ in OF_ONE:
            self.assertRaises(TypeError, one)
            self.assertRaises(TypeError, one, 1, 2)
        self.assertRaises(TypeError, NoCompartment, 1)


class Kinds(unittest.TestCase):
    def test_eighteen(self):
        self.assertEqual(len(set(ALL)), 18)
        for one in ALL + [ReachError]:
            self.assertEqual(one.__module__, "sealedreach.errors")
            self.assertIs(getattr(errors, one.__name__), one)

    def test_straight_under(self):
        self.assertEqual(ReachError.__bases__, (ValueError,))
        for one in ALL:
            self.assertEqual(one.__bases__, (APART.get(one, ReachError),))

    def test_none_is_another_one(self):
        for one in ALL:
            for other in ALL:
                self.assertEqual(issubclass(one, other), one is other)

    def test_four_apart(self):
        for one in APART:
            self.assertFalse(issubclass(one, ReachError))
            self.assertFalse(issubclass(one, ValueError))

    def test_reach_error_catches_the_others(self):
        for one in ALL:
            made = one(0, "form") if one is NoCompartment else one("a")
            self.assertEqual(isinstance(made, ReachError), one not in APART)

    def test_reach_error_itself(self):
        with self.assertRaises(ValueError):
            raise ReachError("refused")


if __name__ == "__main__":
    unittest.main()
