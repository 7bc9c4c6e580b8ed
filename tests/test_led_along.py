"""Section 3, (c), for sections 12, 13, 18, 19: led along by gates of single wires the same is told."""

import random
import unittest

from guardedwires.counting import by_lots, of_group, of_passing
from guardedwires.guards import led_guard
from guardedwires.holders import blind_holders, can_tell, least_holders, shows_told_on, told_on
from guardedwires.mending import (answered, best_table, mended, most_mended, shows_best_table, shows_mended,
                                  shows_two_faults, two_faults)
from guardedwires.sharing import shared
from tests.checking import random_guard, random_letters
from tests.oracle import all_letters, all_lots, led, some_of
from tests.test_nets import single_gates

HOLDERS = ((0, 3), (1,), (2,))


class LedAlong(unittest.TestCase):

    def setUp(self):
        self.chance = random.Random(30)

    def some(self):
        """(guard, gates, guard led by them)"""
        guard = random_guard(self.chance, 4, self.chance.randrange(5))
        gates = single_gates(self.chance, 4, 10)
        return guard, gates, led_guard(guard, gates)

    def test_counting(self):
        for _ in range(20):
            guard, _, other = self.some()
            for function in (of_group, of_passing, by_lots):
                self.assertEqual(function(guard), function(other))

    def test_mending(self):
        for _ in range(30):
            guard, gates, other = self.some()
            faults = tuple(sorted(self.chance.sample(sorted(all_letters(4)), 6)))
            along = {letters: led("+" + letters, gates)[1:] for letters in sorted(all_letters(4))}
            weights = {along[letters]: self.chance.randrange(9) for letters in faults}
            its, told = tuple(sorted(weights)), mended(guard, faults)
            if told[0] == "table":
                rows = tuple((signs, along[letters]) for signs, letters in told[1])
                self.assertIs(shows_mended(other, its, ("table", rows)), True)
            else:
                self.assertIs(shows_mended(other, its, ("spoils",) + tuple(sorted(along[one] for one in told[1:]))), True)
            total, table = best_table(guard, faults, tuple(weights[along[letters]] for letters in faults))
            mine = tuple((signs, along[letters]) for signs, letters in table)
            self.assertIs(shows_best_table(other, its, tuple(weights[one] for one in its), (total, mine)), True)
            self.assertEqual(most_mended(guard)[0], most_mended(other)[0])
            letters = random_letters(self.chance, 4)
            self.assertEqual(answered(guard, table, letters)[0], answered(other, mine, along[letters])[0])
            for most in range(5):
                found = two_faults(guard, most)
                value = found and tuple(sorted(along[one] for one in found))
                self.assertIs(shows_two_faults(other, most, value), True)

    def test_holders(self):
        for _ in range(30):
            guard, gates, other = self.some()
            for function in (least_holders, blind_holders):
                self.assertEqual(function(guard, HOLDERS), function(other, HOLDERS))
            for some in some_of(HOLDERS):
                self.assertEqual(can_tell(guard, HOLDERS, some), can_tell(other, HOLDERS, some))
            for lot in all_lots(4):
                value = tuple(tuple(tuple(led(word, gates) for word in pair) for pair in part)
                              for part in told_on(guard, lot))
                self.assertIs(shows_told_on(other, lot, value), True)

    def test_sharing(self):
        for _ in range(30):
            guard, _, other = self.some()
            for side in all_lots(4)[1:-1]:
                self.assertEqual(shared(guard, side), shared(other, side))


if __name__ == "__main__":
    unittest.main()
