"""Section 18: who can tell."""

import random
from itertools import product

from guardedwires import holders as module
from guardedwires.errors import BadHolders, BadLot, BadNumbers
from guardedwires.guards import Guard, exchanged
from guardedwires.holders import blind_holders, can_tell, least_holders, shows_told_on, told_on
from tests import oracle_sides
from tests.checking import (Checking, all_guards, junk, liked_pairs, multiplied, near, opposite, random_guard,
                            some_guard, turned_pairs)
from tests.oracle import all_lots, is_numbers, some_of
from tests.oracle_guards import kept_words, may_be_lost
from tests.oracle_sides import is_holders, right_told_on

PAIR = Guard("wires 2\nguard +ZZ")
FOUR = Guard("wires 4\nguard +XXXX\nguard +ZZZZ")
FIVE = Guard("wires 5\nguard +XZZXI\nguard +IXZZX\nguard +XIXZZ\nguard +ZXIXZ")
PARTED = ((0, 1), (2, 3), (4,))


def all_holders(n):
    """All holders of so many wires, the lots of each in one sequence."""
    found = []
    for placed in product(range(min(n, 4)), repeat=n):
        many = max(placed) + 1
        lots = tuple(tuple(wire for wire in range(n) if placed[wire] == k) for k in range(many))
        if many >= 2 and all(lots):
            found.append(lots)
    return found


class Holders(Checking):

    def test_told_on(self):
        sizes = []
        for turn in range(80):
            guard = some_guard(turn)
            chance = random.Random(turn)
            for lot in chance.sample(all_lots(guard.wires), 2):
                told = self.check_told(told_on, shows_told_on, right_told_on, (guard, lot), most=40)
                sizes.append(tuple(len(part) for part in told))
        for place in range(3):
            self.assertIn(1, [size[place] for size in sizes])
            self.assertIn(2, [size[place] for size in sizes])

    def test_other_ways_to_tell(self):
        for turn in range(60):
            guard = some_guard(turn)
            chance = random.Random(turn)
            lot = chance.choice(all_lots(guard.wires))
            own, lone, far = told_on(guard, lot)
            mates = [own[::-1], tuple(pair[::-1] for pair in own), far, own + far, liked_pairs(chance, guard, own), ()]
            others = [lone[::-1], liked_pairs(chance, guard, lone), tuple(pair[::-1] for pair in lone), lone[:1], own]
            values = [(one, lone, far) for one in mates] + [(own, lone, one) for one in mates]
            values += [(own, other, far) for other in others] + [(far, lone, own), (turned_pairs(chance, guard), (), ())]
            values += [(own, lone, turned_pairs(chance, guard)), ((), turned_pairs(chance, guard), ())]
            self.check_shows(shows_told_on, right_told_on, (guard, lot), values)

    def test_told_by_all_words(self):
        for guard in [Guard("wires 1")] + all_guards(2)[1:31:9]:
            every = [(pair,) for pair in product(sorted(kept_words(guard)), repeat=2)]
            for lot in all_lots(guard.wires):
                values = [(pairs, (), ()) for pairs in every] + [((), pairs, ()) for pairs in every]
                values += [((), (), pairs) for pairs in every]
                self.check_shows(shows_told_on, right_told_on, (guard, lot), values)
                self.assertEqual(len({tuple(len(part) for part in value) for value in values
                                      if shows_told_on(guard, lot, value)}), 1)

    def test_signs_of_what_both_sides_tell(self):
        lot = (0, 1)
        self.assertIs(shows_told_on(FOUR, lot, ((), (("+XXII", "+IIXX"), ("+ZZII", "+IIZZ")), ())), True)
        self.assertIs(shows_told_on(FOUR, lot, ((), (("-XXII", "-IIXX"), ("+ZZII", "+IIZZ")), ())), True)
        self.assertIs(shows_told_on(FOUR, lot, ((), (("+XXII", "-IIXX"), ("+ZZII", "+IIZZ")), ())), False)
        self.assertIs(shows_told_on(FOUR, lot, ((), (("+XXII", "+IIXX"), ("+XXII", "+IIXX")), ())), False)
        self.assertIs(shows_told_on(FOUR, lot, ((), (("+XXII", "+IIXX"), ("+YYII", "+IIYY")), ())), True)
        self.assertIs(shows_told_on(FOUR, (2, 3), ((), (("+XXII", "+IIXX"), ("+ZZII", "+IIZZ")), ())), False)
        self.assertIs(shows_told_on(FOUR, lot, ((), (("+XXII", "+IIXX"),), ())), False)
        self.assertIs(shows_told_on(FOUR, lot, ((), [("+XXII", "+IIXX"), ("+ZZII", "+IIZZ")], ())), False)

    def test_lots_of_no_wires_and_of_all(self):
        for guard in (PAIR, FOUR, Guard("wires 1"), Guard("wires 2\nguard +XX\nguard -ZZ")):
            own, lone, far = told_on(guard, ())
            self.assertEqual((own, lone, len(far)), ((), (), guard.kept))
            own, lone, far = told_on(guard, tuple(range(guard.wires)))
            self.assertEqual((len(own), lone, far), (guard.kept, (), ()))

    def test_here_and_there(self):
        for turn in range(40):
            guard = some_guard(turn)
            for lot in all_lots(guard.wires):
                rest = tuple(wire for wire in range(guard.wires) if wire not in lot)
                own, lone, far = [len(part) for part in told_on(guard, lot)]
                self.assertEqual([len(part) for part in told_on(guard, rest)], [far, lone, own])
                self.assertEqual(own == lone == 0, may_be_lost(guard, lot))

    def test_can_tell(self):
        names = []
        for turn in range(60):
            guard = random_guard(random.Random(turn), 2 + turn % 3, turn % (3 + turn % 3))
            for holders in random.Random(turn).sample(all_holders(guard.wires), 1 + (guard.wires > 2)):
                for some in some_of(holders):
                    told = can_tell(guard, holders, some)
                    self.assertEqual(told, oracle_sides.can_tell(guard, holders, some))
                    names.append(told)
        self.assertEqual(set(names), {"all", "nothing", "part"})

    def test_least_and_blind_holders(self):
        for turn in range(80):
            guard = random_guard(random.Random(turn), 2 + turn % 3, turn % (3 + turn % 3))
            for holders in random.Random(turn).sample(all_holders(guard.wires), 1 + (guard.wires > 2)):
                self.assertEqual(least_holders(guard, holders), oracle_sides.least_holders(guard, holders))
                self.assertEqual(blind_holders(guard, holders), oracle_sides.blind_holders(guard, holders))
        self.assertEqual(least_holders(FIVE, PARTED), ((0, 1), (0, 2), (1, 2)))
        self.assertEqual(blind_holders(FIVE, PARTED), ((0,), (1,), (2,)))

    def test_where_nothing_is_kept(self):
        full = Guard("wires 2\nguard +XX\nguard -ZZ")
        for some in ((), (0,), (1,), (0, 1)):
            self.assertEqual(can_tell(full, ((0,), (1,)), some), "all")
        self.assertEqual(least_holders(full, ((0,), (1,))), ((),))
        self.assertEqual(blind_holders(full, ((0,), (1,))), ((0, 1),))
        self.assertEqual(blind_holders(Guard("wires 2"), ((0,), (1,))), ((),))
        self.assertEqual(least_holders(Guard("wires 2"), ((0,), (1,))), ((0, 1),))

    def test_four_holders_of_six_wires(self):
        for turn in range(14):
            chance = random.Random(turn)
            guard = random_guard(chance, 6, turn % 7)
            holders = ((0, 3), (1,), (2, 5), (4,))
            for lot in chance.sample(all_lots(6), 4):
                self.assertIs(shows_told_on(guard, lot, told_on(guard, lot)), True)
            able = least_holders(guard, holders)
            self.assertTrue(all(can_tell(guard, holders, some) == "all" for some in able))
            self.assertEqual(able, tuple(sorted(able, key=lambda some: (len(some), some))))
            blind = blind_holders(guard, holders)
            self.assertEqual(blind, tuple(sorted(blind, key=lambda some: (len(some), some))))
            # Who can tell nothing leaves all to the others.
            rests = [tuple(k for k in range(4) if k not in some) for some in able]
            self.assertEqual(sorted(rests), sorted(blind))

    def test_groups_alone_contraries_and_wires(self):
        for turn in range(30):
            guard = random_guard(random.Random(turn), 4, turn % 5)
            chance = random.Random(turn)
            wires = tuple(chance.sample(range(4), 4))
            other = exchanged(guard, wires)
            for holders in chance.sample(all_holders(4), 3):
                along = tuple(tuple(k for k in range(4) if wires[k] in lot) for lot in holders)
                told = (least_holders(guard, holders), blind_holders(guard, holders))
                self.assertEqual(told, (least_holders(other, along), blind_holders(other, along)))
                for mine in (multiplied(chance, guard), opposite(chance, guard)):
                    self.assertEqual(told, (least_holders(mine, holders), blind_holders(mine, holders)))
            for lot in all_lots(4):
                mine = multiplied(chance, guard)
                self.assertIs(shows_told_on(mine, lot, told_on(guard, lot)), True)

    def test_values_of_all_kinds(self):
        for guard in (PAIR, Guard("wires 2"), Guard("wires 2\nguard +XX\nguard +ZZ"), Guard("wires 1")):
            for lot in all_lots(guard.wires):
                self.check_junk(shows_told_on, right_told_on, (guard, lot))

    def test_wrong_holders(self):
        right = ((0, 1), (2,))
        three = Guard("wires 3\nguard +ZZI")
        values = junk() + list(near(right)) + [((0,), (1,), (2,)), ((2,), (0, 1)), ((0, 1, 2), ()), ((0, 1, 2),), ((0,), (1,)),
                                               ((0, 1), (1, 2)), ((1, 0), (2,)), [(0, 1), (2,)], ([0, 1], (2,)), ((0, 1), (3,)),
                                               ((False, 1), (2,)), ((0, 1), (2,), ())]
        for value in values:
            if is_holders(value, 3):
                self.assertIsInstance(least_holders(three, value), tuple)
                continue
            for function, rest in ((least_holders, ()), (blind_holders, ()), (can_tell, ((),))):
                self.check_refused(function, (three, right) + rest, {1: value}, BadHolders)
            self.check_refused(can_tell, (three, right, ()), {1: value, 2: (9,)}, BadHolders)
        self.check_refused(least_holders, (FIVE, PARTED), {1: ((0,), (1,), (2,), (3,), (4,))}, BadHolders)
        self.assertEqual(len(least_holders(FIVE, ((0,), (1,), (2,), (3, 4)))), 4)
        for value in (((0,),), ((0,), ()), ((), (0,)), ()):
            self.check_refused(least_holders, (Guard("wires 1"), ()), {1: value}, BadHolders)

    def test_wrong_arguments(self):
        lot = (BadLot, lambda value: is_numbers(value, 2))
        self.check_wrong(told_on, (PAIR, (0,)), [None, lot])
        self.check_wrong(shows_told_on, (PAIR, (0,), 0), [None, lot, None])
        both = (BadHolders, lambda value: is_holders(value, 2))
        some = (BadNumbers, lambda value: is_numbers(value, 2))
        self.check_wrong(can_tell, (PAIR, ((0,), (1,)), (0,)), [None, both, some])
        for value in ((2,), (1, 0), (0, 0), (True,), [0], 0, (-1,), None):
            self.check_refused(can_tell, (PAIR, ((0,), (1,)), ()), {2: value}, BadNumbers)

    def test_names(self):
        both = ((0,), (1,))
        for function, names, args in (
                (told_on, "guard lot", (PAIR, (0,))), (shows_told_on, "guard lot value", (PAIR, (0,), 0)),
                (can_tell, "guard holders some", (PAIR, both, (0,))), (least_holders, "guard holders", (PAIR, both)),
                (blind_holders, "guard holders", (PAIR, both))):
            self.check_names(function, names, args)
            self.assertEqual(function.__module__, "guardedwires.holders")
            self.assertIs(getattr(module, function.__name__), function)
