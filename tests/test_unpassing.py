"""Section 7: makers that do not pass."""

import random
import unittest
from itertools import product as rows_of

from guardedwires import unpassing
from guardedwires.errors import BadLot, BadMakers, BadNumber
from guardedwires.guards import Guard
from guardedwires.unpassing import (bare_frame, bare_on, carried, dressed_on, least_dressed, lone_guard,
                                    shows_bare_frame, shows_bare_on, shows_dressed_on, shows_spared, spared)
from tests import oracle_guards
from tests.checking import Checking, random_letters, random_makers
from tests.oracle import all_letters, all_lots, is_int, is_letters, is_numbers, is_tuple, misses, on, span
from tests.oracle_guards import (dressed, right_bare_frame, right_bare_on, right_dressed_on, right_least_dressed,
                                 right_lone_guard, right_spared)

SQUARE = ("XXII", "IIXX", "ZIZI", "IZIZ")


def some_makers(turn):
    """(wires, makers) of one to four wires."""
    chance = random.Random(turn)
    n = 1 + turn % 4
    makers = random_makers(chance, n, chance.randrange(0, n + 3))
    return n, makers + (("I" * n,) + makers[:1] if turn % 5 == 0 else ())


class Unpassing(Checking):

    def test_carried(self):
        for turn in range(200):
            n, makers = some_makers(turn)
            self.assertEqual(carried(n, makers), oracle_guards.carried(n, makers))
            self.assertGreaterEqual(carried(n, makers), 0)
        self.assertEqual([carried(n, ()) for n in range(1, 7)], [1, 2, 3, 4, 5, 6])
        self.assertEqual(carried(1, ("X", "Y", "Z")), 0)
        self.assertEqual(carried(6, ("XIIIII", "ZIIIII", "IXIIII")), 4)

    def test_bare_frame(self):
        for turn in range(60):
            n, makers = some_makers(turn)
            self.check_told(bare_frame, shows_bare_frame, right_bare_frame, (n, makers), most=150)

    def test_bare_frames_by_all_of_one_pair(self):
        for n, makers in ((2, ("ZZ",)), (2, ("XI",)), (2, ("XI", "ZI")), (1, ())):
            every = sorted(all_letters(n))
            shown = [pair for pair in rows_of(every, repeat=2) if shows_bare_frame(n, makers, (pair,))]
            self.assertEqual(shown, [pair for pair in rows_of(every, repeat=2) if right_bare_frame(n, makers, (pair,))])
            self.assertIn(bare_frame(n, makers)[0], shown)

    def test_lone_guard(self):
        for turn in range(120):
            n, makers = some_makers(turn)
            told = lone_guard(n, makers)
            self.assertIsInstance(told, Guard)
            self.assertTrue(right_lone_guard(n, makers, told))
            self.assertEqual(told, lone_guard(n, makers))
        self.assertEqual(lone_guard(6, ()), Guard("wires 6"))
        self.assertEqual(lone_guard(1, ("X", "Z")), Guard("wires 1"))

    def test_bare_on_and_dressed_on(self):
        for turn in range(60):
            n, makers = some_makers(turn)
            chance = random.Random(turn)
            for lot in chance.sample(all_lots(n), 2):
                self.check_told(bare_on, shows_bare_on, right_bare_on, (n, makers, lot), most=60)
                self.check_told(dressed_on, shows_dressed_on, right_dressed_on, (n, makers, lot), most=60)

    def test_bare_here_and_dressed_elsewhere(self):
        for turn in range(60):
            n, makers = some_makers(turn)
            for lot in all_lots(n):
                rest = tuple(wire for wire in range(n) if wire not in lot)
                together = bare_on(n, makers, lot)[0] + dressed_on(n, makers, rest)[0]
                self.assertEqual(together, 2 * carried(n, makers))

    def test_spared(self):
        for turn in range(60):
            n, makers = some_makers(turn)
            chance = random.Random(turn)
            for lot in chance.sample(all_lots(n), 2):
                others = [("dressed", random_letters(chance, n)) for _ in range(4)] + [("moved", bare_frame(n, makers))]
                self.check_told(spared, shows_spared, right_spared, (n, makers, lot), others, most=40)

    def test_moved_or_dressed_by_all_letters(self):
        for turn in range(90):
            n = 1 + turn % 3
            makers = random_makers(random.Random(turn), n, turn % 4)
            for lot in all_lots(n):
                told = spared(n, makers, lot)
                shown = [letters for letters in sorted(all_letters(n))
                         if shows_spared(n, makers, lot, ("dressed", letters))]
                self.assertEqual(shown, sorted(letters for letters in dressed(n, makers) - span(n, makers)
                                               if on(letters, lot)))
                self.assertEqual(told[0], "dressed" if shown else "moved")
                if not shown:
                    self.assertTrue(all(misses(letters, lot) for pair in told[1] for letters in pair))
                    self.assertIs(shows_spared(n, makers, lot, told), True)

    def test_no_frame_moves_off_where_something_dressed_lies(self):
        for makers, lot in ((("ZZ",), (0,)), (("XI", "ZI"), (1,)), (("XX",), (1,)), ((), (0, 1))):
            every = list(rows_of(sorted(all_letters(2)), repeat=2))
            shown = [pair for pair in every if shows_spared(2, makers, lot, ("moved", (pair,)))]
            self.assertEqual(spared(2, makers, lot)[0], "dressed")
            self.assertEqual(shown, [])

    def test_edges(self):
        self.assertEqual(spared(2, ("XI", "ZI", "IX", "IZ"), (0, 1)), ("moved", ()))
        self.assertEqual(spared(2, ("XX", "ZZ"), (0, 1)), ("moved", ()))
        self.assertIs(shows_spared(2, ("XX", "ZZ"), (0,), ("moved", ())), True)
        self.assertEqual(spared(1, (), ())[0], "moved")
        self.assertEqual(spared(1, (), (0,))[0], "dressed")
        self.assertEqual(bare_on(1, (), ()), (0, ()))
        self.assertEqual(bare_on(1, (), (0,))[0], 2)
        self.assertIs(shows_bare_on(2, ("XX",), (0, 1), (2, ("XX", "IX"))), False)
        self.assertIs(shows_bare_on(2, ("XX",), (0, 1), (2, ("ZZ", "IX"))), True)
        self.assertIs(shows_bare_on(2, ("XX",), (0, 1), (2, ("ZZ", "YY"))), False)
        self.assertIs(shows_bare_on(2, ("XX",), (0, 1), (True, ("ZZ",))), False)
        self.assertIs(shows_dressed_on(4, SQUARE, (0, 3), (2, ("XIIX", "ZIIZ"))), True)
        self.assertIs(shows_bare_on(4, SQUARE, (0, 3), (2, ("XIIX", "ZIIZ"))), False)

    def test_least_dressed(self):
        for turn in range(120):
            n, makers = some_makers(turn)
            self.assertTrue(right_least_dressed(n, makers, least_dressed(n, makers)))
        self.assertIsNone(least_dressed(1, ("X",)))
        self.assertEqual(least_dressed(6, ())[0], 1)
        self.assertEqual(least_dressed(5, ("XZZXI", "IXZZX", "XIXZZ", "ZXIXZ"))[0], 3)

    def test_the_greatest(self):
        chance = random.Random(1)
        for turn in range(15):
            makers = random_makers(chance, 6, 12 if turn % 3 else 5)
            lot = tuple(sorted(chance.sample(range(6), turn % 7)))
            self.assertIs(shows_bare_frame(6, makers, bare_frame(6, makers)), True)
            self.assertIs(shows_bare_on(6, makers, lot, bare_on(6, makers, lot)), True)
            self.assertIs(shows_dressed_on(6, makers, lot, dressed_on(6, makers, lot)), True)
            self.assertIs(shows_spared(6, makers, lot, spared(6, makers, lot)), True)
            lone_guard(6, makers)
            least_dressed(6, makers)
        self.assertEqual(carried(6, ("XIIIII",) * 12), 5)

    def test_values_of_all_kinds(self):
        for makers in (("ZZ",), (), ("XX", "ZZ"), ("XI", "ZI")):
            self.check_junk(shows_bare_frame, right_bare_frame, (2, makers))
            for lot in ((0,), (0, 1)):
                self.check_junk(shows_bare_on, right_bare_on, (2, makers, lot))
                self.check_junk(shows_dressed_on, right_dressed_on, (2, makers, lot))
                self.check_junk(shows_spared, right_spared, (2, makers, lot))

    def test_wrong_arguments(self):
        wires = (BadNumber, lambda value: is_int(value) and 1 <= value <= 6)
        makers = (BadMakers, lambda value: is_tuple(value) and len(value) <= 12 and all(is_letters(m, 2) for m in value))
        lot = (BadLot, lambda value: is_numbers(value, 2))
        for function in (carried, bare_frame, lone_guard, least_dressed):
            self.check_wrong(function, (2, ("XX",)), [wires, makers])
        self.check_wrong(shows_bare_frame, (2, ("XX",), 0), [wires, makers, None])
        for function in (bare_on, dressed_on, spared):
            self.check_wrong(function, (2, ("XX",), (0,)), [wires, makers, lot])
        for function in (shows_bare_on, shows_dressed_on, shows_spared):
            self.check_wrong(function, (2, ("XX",), (0,), 0), [wires, makers, lot, None])

    def test_names(self):
        for function, names, args in (
                (carried, "wires makers", (1, ("X",))), (bare_frame, "wires makers", (1, ("X",))),
                (shows_bare_frame, "wires makers value", (1, ("X",), ())), (lone_guard, "wires makers", (1, ("X",))),
                (bare_on, "wires makers lot", (1, (), (0,))), (dressed_on, "wires makers lot", (1, (), (0,))),
                (shows_bare_on, "wires makers lot value", (1, (), (0,), 0)),
                (shows_dressed_on, "wires makers lot value", (1, (), (0,), 0)),
                (spared, "wires makers lot", (1, (), (0,))), (shows_spared, "wires makers lot value", (1, (), (0,), 0)),
                (least_dressed, "wires makers", (1, ()))):
            self.check_names(function, names, args)
            self.assertEqual(function.__module__, "guardedwires.unpassing")
            self.assertIs(getattr(unpassing, function.__name__), function)


if __name__ == "__main__":
    unittest.main()
