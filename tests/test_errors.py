"""The errors: which there are, from what they derive, what they keep."""

import unittest

from guardedwires import errors
from tests.checking import junk

NAMES = """WireError, BadWord, BadLetters, BadLot, BadGates, BadFrame, NotKept, OtherWires, BadWords, Bent, BadNumber,
BadTable, BadMakers, BadBase, BadGuard, Crosses, Made, NoWord, BadWires, BadOther, Wide, MustNot, BadRow, BadFaults,
BadWeights, Never, Reads, BadLooks, OtherMany, OtherLetters, NoWords, BadHolders, BadNumbers, BadSide, BadNet, BadWire,
Keeps, BadHeard, NoWire, BadFlow, Out, BadSome, BadTurns, NotDone, BadWish, BadOffers, BadWishes, BadChoice, BadName,
Held, Full, BadGate, NoMark, NothingToUndo, NothingToRedo, NoTrial, BadJournal, BadLine"""


class Errors(unittest.TestCase):

    def test_all_are_there_and_no_others(self):
        told = [name.strip() for name in NAMES.replace("\n", " ").split(",")]
        self.assertEqual(len(told), 58)
        self.assertEqual(sorted(told), sorted(name for name in vars(errors) if not name.startswith("_")))

    def test_they_derive_directly_from_wire_error(self):
        for name, error in vars(errors).items():
            if not name.startswith("_"):
                wanted = (ValueError,) if name == "WireError" else (errors.WireError,)
                self.assertEqual(error.__bases__, wanted)
                self.assertEqual(error.__module__, "guardedwires.errors")

    def test_each_keeps_any_value(self):
        for name, error in vars(errors).items():
            if not name.startswith("_"):
                for value in junk():
                    self.assertIs(error(value).value, value)

    def test_each_has_one_argument(self):
        for name, error in vars(errors).items():
            if not name.startswith("_"):
                self.assertRaises(TypeError, error)
                self.assertRaises(TypeError, error, 1, 2)

    def test_they_are_caught_as_value_errors(self):
        with self.assertRaises(ValueError):
            raise errors.Bent(1)
        with self.assertRaises(errors.WireError) as caught:
            raise errors.BadLine(["x"])
        self.assertEqual(caught.exception.value, ["x"])


if __name__ == "__main__":
    unittest.main()
