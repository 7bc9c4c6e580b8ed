"""Section 19: what two sides share."""

import random

from guardedwires import sharing
from guardedwires.errors import BadSide
from guardedwires.guards import Guard, exchanged, led_guard
from guardedwires.sharing import brought, shared, shows_brought
from tests import oracle_sides
from tests.checking import Checking, all_guards, guard_of, junk, multiplied, near, opposite, random_guard
from tests.oracle import all_gates, all_lots
from tests.oracle_sides import is_side, plain_words, rest_of, right_brought

BELL = Guard("wires 2\nguard +XX\nguard +ZZ")
PAIR = Guard("wires 2\nguard +ZZ")


def all_sides(n):
    return [lot for lot in all_lots(n) if 0 < len(lot) < n]


def gates_on(chance, lot, n, many):
    """So many gates on wires of the lot alone."""
    those = sorted(gate for gate in all_gates(n) if all(int(number) in lot for number in gate.split(" ")[1:]))
    return tuple(chance.choice(those) for _ in range(many))


def some_sides(turn):
    """(guard, side) of two to four wires."""
    chance = random.Random(turn)
    n = 2 + turn % 3
    return random_guard(chance, n, chance.randrange(n + 1)), chance.choice(all_sides(n))


class Sharing(Checking):

    def test_shared(self):
        seen = []
        for turn in range(150):
            guard, side = some_sides(turn)
            told = shared(guard, side)
            self.assertEqual(told, oracle_sides.shared(guard, side))
            self.assertEqual({type(part) for part in told}, {int})
            pairs, signs, own, far = told
            self.assertEqual(shared(guard, rest_of(side, guard.wires)), (pairs, signs, far, own))
            self.assertLessEqual(own + signs + pairs, len(side))
            seen.append(told)
        for place in range(4):
            self.assertIn(1, [told[place] for told in seen])

    def test_much_that_is_shared(self):
        seen = []
        for turn in range(40):
            chance = random.Random(turn)
            guard, side = random_guard(chance, 4 + turn % 2, 4), (0, 1 + turn % 3)
            self.assertEqual(shared(guard, side), oracle_sides.shared(guard, side))
            self.assertTrue(right_brought(guard, side, brought(guard, side)))
            seen.append(shared(guard, side)[:2])
        self.assertTrue({(0, 0), (1, 0), (1, 1), (2, 0)} <= set(seen))

    def test_brought(self):
        for turn in range(100):
            guard, side = some_sides(turn)
            self.check_told(brought, shows_brought, right_brought, (guard, side), most=25)

    def test_brought_of_all_small_guards(self):
        for guard in all_guards(2)[::3]:
            for side in ((0,), (1,)):
                told = brought(guard, side)
                self.assertTrue(right_brought(guard, side, told))
                self.assertIs(shows_brought(guard, side, told), True)

    def test_other_gates(self):
        for guard in (BELL, PAIR, Guard("wires 2\nguard +ZI\nguard -IZ"), Guard("wires 2\nguard +XI"), Guard("wires 2")):
            for side in ((0,), (1,)):
                chance = random.Random(1)
                ways = [(gates_on(chance, side, 2, chance.randrange(4)), gates_on(chance, rest_of(side, 2), 2, chance.randrange(4)))
                        for _ in range(100)]
                self.check_shows(shows_brought, right_brought, (guard, side), ways + [way[::-1] for way in ways])

    def test_gates_stay_on_their_side(self):
        self.assertIs(shows_brought(BELL, (0,), ((), ())), True)
        self.assertIs(shows_brought(BELL, (0,), (("x 0", "x 0"), ("z 1", "z 1"))), True)
        self.assertIs(shows_brought(BELL, (0,), (("z 1", "z 1"), ())), False)
        self.assertIs(shows_brought(BELL, (0,), ((), ("x 0", "x 0"))), False)
        self.assertIs(shows_brought(BELL, (0,), (("swap 0 1",), ())), False)
        self.assertIs(shows_brought(BELL, (0,), ([], ())), False)
        self.assertIs(shows_brought(BELL, (0,), [(), ()]), False)
        self.assertIs(shows_brought(BELL, (0,), ((),)), False)
        self.assertIs(shows_brought(BELL, (0,), ((), (), ())), False)
        self.assertIs(shows_brought(BELL, (0,), (("x 0",) * 400, ())), True)
        self.assertIs(shows_brought(BELL, (0,), (("x 0",) * 402, ())), False)
        self.assertIs(shows_brought(BELL, (0,), (("x 0",), ())), False)

    def test_the_plain_group_stays(self):
        for told in ((0, 2, 0, 0), (2, 0, 0, 0), (0, 0, 2, 2), (1, 1, 0, 0), (1, 0, 1, 1), (0, 1, 1, 1), (0, 0, 0, 0)):
            guard = guard_of(4, plain_words(4, (0, 1), told))
            self.assertEqual(shared(guard, (0, 1)), told)
            self.assertIs(shows_brought(guard, (0, 1), ((), ())), True)
            chance = random.Random(8)
            for _ in range(10):
                gates = gates_on(chance, (0, 1), 4, 6) + gates_on(chance, (2, 3), 4, 6)
                other = multiplied(chance, led_guard(guard, gates))
                self.assertEqual(shared(other, (0, 1)), told)
                self.assertTrue(right_brought(other, (0, 1), brought(other, (0, 1))))

    def test_plain_groups_of_six_wires(self):
        for side in ((0, 1, 2), (1, 3, 5), (0, 5), (2,), (0, 1, 3, 4)):
            for told in ((1, 0, 0, 1), (0, 1, 0, 1), (1, 0, 0, 0), (0, 0, 1, 1), (1, 1, 0, 0), (1, 1, 1, 0), (2, 0, 0, 0)):
                pairs, signs, own, far = told
                if pairs + signs + own <= len(side) and pairs + signs + far <= 6 - len(side):
                    guard = guard_of(6, plain_words(6, side, told))
                    self.assertEqual(shared(guard, side), told)
                    self.assertIs(shows_brought(guard, side, ((), ())), True)

    def test_gates_on_either_side_change_nothing(self):
        for turn in range(60):
            guard, side = some_sides(turn)
            chance = random.Random(turn)
            here, there = gates_on(chance, side, guard.wires, 8), gates_on(chance, rest_of(side, guard.wires), guard.wires, 8)
            other = led_guard(led_guard(guard, here), there)
            self.assertEqual(shared(guard, side), shared(other, side))
            self.assertIs(shows_brought(other, side, brought(other, side)), True)

    def test_six_wires(self):
        longest = 0
        for turn in range(40):
            chance = random.Random(turn)
            guard = random_guard(chance, 6, turn % 7)
            side = chance.choice(all_sides(6))
            told = brought(guard, side)
            self.assertIs(shows_brought(guard, side, told), True)
            longest = max(longest, len(told[0]), len(told[1]))
        self.assertLessEqual(longest, 400)

    def test_groups_alone_contraries_and_wires(self):
        for turn in range(60):
            guard, side = some_sides(turn)
            chance = random.Random(turn)
            mine = multiplied(chance, guard)
            self.assertEqual(shared(guard, side), shared(mine, side))
            self.assertEqual(shared(guard, side), shared(opposite(chance, guard), side))
            self.assertIs(shows_brought(mine, side, brought(guard, side)), True)
            wires = tuple(chance.sample(range(guard.wires), guard.wires))
            along = tuple(k for k in range(guard.wires) if wires[k] in side)
            self.assertEqual(shared(exchanged(guard, wires), along), shared(guard, side))

    def test_values_of_all_kinds(self):
        for guard in (BELL, PAIR, Guard("wires 2")):
            self.check_junk(shows_brought, right_brought, (guard, (0,)))

    def test_wrong_arguments(self):
        side = (BadSide, lambda value: is_side(value, 3))
        three = Guard("wires 3\nguard +ZZI")
        for function in (shared, brought):
            self.check_wrong(function, (three, (0, 1)), [None, side])
        self.check_wrong(shows_brought, (three, (0, 1), 0), [None, side, None])
        for value in ((), (0, 1, 2), (1, 0), (0, 0), (3,), [0], (True,), 0, None, (-1,)):
            for function, rest in ((shared, ()), (brought, ()), (shows_brought, (0,))):
                self.check_refused(function, (three, (0,)) + rest, {1: value}, BadSide)
        for value in ((), (0,)):
            self.check_refused(shared, (Guard("wires 1"), ()), {1: value}, BadSide)
        for value in junk() + list(near((0, 1))):
            if not is_side(value, 3):
                self.check_refused(shared, (three, (0, 1)), {1: value}, BadSide)

    def test_names(self):
        for function, names, args in ((shared, "guard side", (PAIR, (0,))), (brought, "guard side", (PAIR, (0,))),
                                      (shows_brought, "guard side value", (PAIR, (0,), 0))):
            self.check_names(function, names, args)
            self.assertEqual(function.__module__, "guardedwires.sharing")
            self.assertIs(getattr(sharing, function.__name__), function)
