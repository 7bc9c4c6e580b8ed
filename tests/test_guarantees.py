"""Section 3: what is told hangs on groups alone, and is led along with wires that are exchanged and with gates."""

import random
import unittest

from guardedwires.frames import frame, told_in
from guardedwires.guards import exchanged, group, led_guard, same_group
from guardedwires.kinds import alike_beside, kind
from guardedwires.losing import apart, cleaned, least_lots, least_word, lost, lying
from guardedwires.spans import made, rank, sizes, span_gates, within, word_gates
from guardedwires.unpassing import bare_on, carried, dressed_on, least_dressed, spared
from guardedwires.words import independent, joined, passes
from tests import oracle
from tests.checking import (multiplied, opposite, random_gates, random_guard, random_letters, random_makers,
                            random_word)
from tests.oracle import all_lots


def moved_along(letters, wires):
    """With at wire k the letter that stood at wires[k]."""
    return "".join(letters[wire] for wire in wires)


def lot_along(lot, wires):
    return tuple(k for k, wire in enumerate(wires) if wire in lot)


class Guarantees(unittest.TestCase):

    def setUp(self):
        self.chance = random.Random(20)

    def some_guard(self):
        n = self.chance.randrange(1, 6)
        return random_guard(self.chance, n, self.chance.randrange(0, n + 1))

    def some_wires(self, n):
        return tuple(self.chance.sample(range(n), n))

    def check_alike(self, guard, other):
        """That what does not hang on words themselves is told alike of both."""
        self.assertEqual(least_lots(guard), least_lots(other))
        self.assertEqual(least_word(guard)[0], least_word(other)[0])
        for lot in all_lots(guard.wires):
            self.assertEqual(lost(guard, lot)[0], lost(other, lot)[0])
            self.assertEqual([len(part) for part in lying(guard, lot)], [len(part) for part in lying(other, lot)])
            letters = random_letters(self.chance, guard.wires)
            self.assertEqual(cleaned(guard, lot, letters)[0], cleaned(other, lot, letters)[0])
            its = self.chance.choice(all_lots(guard.wires))
            self.assertEqual(apart(guard, lot, its)[0], apart(other, lot, its)[0])

    def test_bases(self):
        for _ in range(25):
            guard = self.some_guard()
            other = multiplied(self.chance, guard)
            self.assertEqual(group(guard), group(other))
            self.check_alike(guard, other)
            for _ in range(10):
                word = random_word(self.chance, guard.wires)
                self.assertEqual(kind(guard, word)[0], kind(other, word)[0])

    def test_contraries(self):
        for _ in range(25):
            guard = self.some_guard()
            self.check_alike(guard, opposite(self.chance, guard))

    def test_wires_exchanged_in_guards(self):
        for _ in range(25):
            guard = self.some_guard()
            wires = self.some_wires(guard.wires)
            other = exchanged(guard, wires)
            self.assertEqual(least_word(guard)[0], least_word(other)[0])
            self.assertEqual(sorted(lot_along(lot, wires) for lot in least_lots(guard)), sorted(least_lots(other)))
            for lot in all_lots(guard.wires):
                self.assertEqual(lost(guard, lot)[0], lost(other, lot_along(lot, wires))[0])
            word = random_word(self.chance, guard.wires)
            along = word[0] + moved_along(word[1:], wires)
            self.assertEqual(kind(guard, word)[0], kind(other, along)[0])

    def test_wires_exchanged_in_makers(self):
        for _ in range(60):
            n = self.chance.randrange(1, 6)
            wires = self.some_wires(n)
            makers, others = random_makers(self.chance, n, 4), random_makers(self.chance, n, 4)
            mine = tuple(moved_along(letters, wires) for letters in makers)
            its = tuple(moved_along(letters, wires) for letters in others)
            self.assertEqual((rank(n, makers), sizes(n, makers)), (rank(n, mine), sizes(n, mine)))
            self.assertEqual(within(n, makers, others)[0], within(n, mine, its)[0])
            self.assertEqual(span_gates(n, makers, others)[0], span_gates(n, mine, its)[0])
            self.assertEqual(carried(n, makers), carried(n, mine))
            if carried(n, makers):
                self.assertEqual(least_dressed(n, makers)[0], least_dressed(n, mine)[0])
            for lot in all_lots(n):
                along = lot_along(lot, wires)
                self.assertEqual(bare_on(n, makers, lot)[0], bare_on(n, mine, along)[0])
                self.assertEqual(dressed_on(n, makers, lot)[0], dressed_on(n, mine, along)[0])
                self.assertEqual(spared(n, makers, lot)[0], spared(n, mine, along)[0])

    def test_gates_ahead(self):
        for _ in range(60):
            n = self.chance.randrange(1, 6)
            gates = random_gates(self.chance, n, 15)
            words = tuple(random_word(self.chance, n) for _ in range(4))
            along = tuple(oracle.led(word, gates) for word in words)
            self.assertEqual(passes(*words[:2]), passes(*along[:2]))
            self.assertEqual(independent(words)[0], independent(along)[0])
            if passes(*words[:2]):
                self.assertEqual(oracle.led(joined(words[:2]), gates), joined(along[:2]))
            makers, mine = [tuple(word[1:] for word in some) for some in (words, along)]
            self.assertEqual((rank(n, makers), sizes(n, makers)), (rank(n, mine), sizes(n, mine)))
            letters = random_letters(self.chance, n)
            self.assertEqual(made(n, makers, letters)[0], made(n, mine, oracle.led("+" + letters, gates)[1:])[0])
            self.assertEqual(carried(n, makers), carried(n, mine))
            if independent(words)[0] == "independent":
                self.assertEqual(word_gates(n, words, along)[0], "gates")

    def test_gates_ahead_of_guards(self):
        for _ in range(30):
            guard = self.some_guard()
            gates = random_gates(self.chance, guard.wires, 15)
            other = led_guard(guard, gates)
            self.assertEqual(sorted(oracle.led(word, gates) for word in group(guard)), list(group(other)))
            self.assertEqual(same_group(other, led_guard(multiplied(self.chance, guard), gates)), ("same",))
            for _ in range(10):
                word = random_word(self.chance, guard.wires)
                self.assertEqual(kind(guard, word)[0], kind(other, oracle.led(word, gates))[0])
            pairs = frame(guard)
            along = tuple(tuple(oracle.led(word, gates) for word in pair) for pair in pairs)
            for pair in pairs:
                for word in pair:
                    it = oracle.led(word, gates)
                    self.assertEqual(told_in(guard, pairs, word), told_in(other, along, it))
                    self.assertEqual(alike_beside(guard, word, pair[0])[0],
                                     alike_beside(other, it, oracle.led(pair[0], gates))[0])


if __name__ == "__main__":
    unittest.main()
