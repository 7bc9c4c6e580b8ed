"""Section 11: what may be lost."""

import random
import unittest
from itertools import product

from guardedwires import losing
from guardedwires.errors import BadFrame, BadLetters, BadLot, MustNot
from guardedwires.frames import frame, turned_frame
from guardedwires.guards import Guard, exchanged, led_guard
from guardedwires.losing import (apart, cleaned, least_lots, least_word, lost, lying, moved, shows_apart,
                                 shows_cleaned, shows_least_word, shows_lost, shows_lying, shows_moved)
from tests import oracle_guards
from tests.checking import Checking, all_guards, multiplied, opposite, random_guard, random_letters, random_word
from tests.oracle import all_letters, all_lots, all_words, is_letters, is_numbers, some_of
from tests.oracle_guards import (may_be_lost, right_apart, right_cleaned, right_frame, right_least_word, right_lost,
                                 right_lying, right_moved)

PAIR = Guard("wires 2\nguard +ZZ")
FOUR = Guard("wires 4\nguard +XXXX\nguard +ZZZZ")
FIVE = Guard("wires 5\nguard +XZZXI\nguard +IXZZX\nguard +XIXZZ\nguard +ZXIXZ")
OFF = (("+IXXI", "+IIZZ"), ("+IIXX", "+IZZI"))


def some_guard(turn, most=4):
    n = 1 + turn % most
    return random_guard(random.Random(turn), n, (turn // most) % (n + 1))


def some_guards():
    """Of one wire all, of two and three ones some."""
    return all_guards(1) + all_guards(2)[::11] + [some_guard(turn, 3) for turn in range(2, 50, 6)]


class Losing(Checking):

    def test_lying(self):
        for turn in range(60):
            guard = some_guard(turn)
            chance = random.Random(turn)
            for lot in chance.sample(all_lots(guard.wires), 2):
                self.check_told(lying, shows_lying, right_lying, (guard, lot), most=60)

    def test_how_many_lie(self):
        for guard in some_guards() + [FOUR, FIVE]:
            for lot in all_lots(guard.wires):
                words, others = lying(guard, lot)
                rest = tuple(wire for wire in range(guard.wires) if wire not in lot)
                there = len(lying(guard, rest)[0])
                self.assertEqual(len(words) + len(others), 2 * len(lot) - len(guard) + there)

    def test_signs_of_lying_words(self):
        guard = Guard("wires 3\nguard -XXI\nguard +ZZI")
        self.assertIs(shows_lying(guard, (0, 1), (("+YYI", "-XXI"), ())), True)
        self.assertIs(shows_lying(guard, (0, 1), (("-YYI", "-XXI"), ())), False)
        self.assertIs(shows_lying(guard, (0, 1), (("-XXI", "-XXI"), ())), False)
        self.assertIs(shows_lying(guard, (0, 1), (("-XXI",), ())), False)
        self.assertIs(shows_lying(guard, (2,), ((), ("IIX", "IIY"))), True)
        self.assertIs(shows_lying(guard, (2,), ((), ("IIX", "IIX"))), False)
        self.assertIs(shows_lying(guard, (0, 1, 2), (("-XXI", "+ZZI"), ("XXX", "IIX"))), False)
        self.assertIs(shows_lying(guard, (0, 1, 2), (("-XXI", "+ZZI"), ("XXX", "IIZ"))), True)

    def test_lying_by_all_words_of_the_group(self):
        for guard in [some_guard(turn, 3) for turn in range(30)]:
            words = sorted(oracle_guards.group(guard))
            kept = sorted(oracle_guards.kept_letters(guard))
            for lot in all_lots(guard.wires):
                told = lying(guard, lot)
                values = [(some, told[1]) for many in range(3) for some in product(words, repeat=many)]
                values += [(told[0], some) for many in range(2) for some in product(kept, repeat=many)]
                self.check_shows(shows_lying, right_lying, (guard, lot), values)

    def test_cleaned(self):
        for turn in range(60):
            guard = some_guard(turn)
            chance = random.Random(turn)
            n = guard.wires
            for lot in chance.sample(all_lots(n), 2):
                letters = random_letters(chance, n)
                others = [("moved", numbers, random_letters(chance, n)) for numbers in some_of(guard.words)]
                others += [("barred", random_letters(chance, n)) for _ in range(4)]
                self.check_told(cleaned, shows_cleaned, right_cleaned, (guard, lot, letters), others, most=30)

    def test_moved_or_barred_by_all_letters(self):
        for guard in some_guards()[::2]:
            every = sorted(all_letters(guard.wires))
            for lot in all_lots(guard.wires):
                for letters in every[::5]:
                    bars = [it for it in every if shows_cleaned(guard, lot, letters, ("barred", it))]
                    told = cleaned(guard, lot, letters)
                    self.assertEqual(told[0], "barred" if bars else "moved")
                    self.assertEqual(bars, [it for it in every if right_cleaned(guard, lot, letters, ("barred", it))])
                    ways = [(numbers, it) for numbers in some_of(guard.words) for it in every
                            if shows_cleaned(guard, lot, letters, ("moved", numbers, it))]
                    self.assertEqual(ways == [], bars != [])
                    self.assertEqual(ways, [(numbers, it) for numbers in some_of(guard.words) for it in every
                                            if right_cleaned(guard, lot, letters, ("moved", numbers, it))])

    def test_lost(self):
        for turn in range(60):
            guard = some_guard(turn)
            chance = random.Random(turn)
            for lot in chance.sample(all_lots(guard.wires), 2):
                others = [("may", frame(guard))] + [("must not", random_word(chance, guard.wires)) for _ in range(5)]
                told = self.check_told(lost, shows_lost, right_lost, (guard, lot), others, most=30)
                self.assertEqual(told[0] == "may", may_be_lost(guard, lot))

    def test_each_lot_may_be_lost_or_has_a_kept_word(self):
        for guard in some_guards():
            every = sorted(all_words(guard.wires))
            for lot in all_lots(guard.wires):
                words = [word for word in every if shows_lost(guard, lot, ("must not", word))]
                self.assertEqual(words, [word for word in every if right_lost(guard, lot, ("must not", word))])
                told = lost(guard, lot)
                self.assertEqual(told[0], "must not" if words else "may")
                self.assertTrue(right_lost(guard, lot, told))

    def test_no_frame_misses_what_must_not_be_lost(self):
        for guard in (PAIR, Guard("wires 1"), Guard("wires 2\nguard -XY")):
            pairs = list(product(sorted(all_words(guard.wires)), repeat=2))
            for lot in all_lots(guard.wires):
                shown = [pair for pair in pairs if shows_lost(guard, lot, ("may", (pair,)))]
                self.assertEqual(shown != [], may_be_lost(guard, lot))

    def test_where_nothing_is_kept(self):
        full = Guard("wires 2\nguard +XX\nguard -ZZ")
        for lot in all_lots(2):
            self.assertEqual(lost(full, lot), ("may", ()))
            self.assertEqual(moved(full, lot, ()), ())
            self.assertIs(shows_moved(full, lot, (), ()), True)
            self.assertIs(shows_moved(full, lot, (), ((),)), False)
        self.assertEqual((least_lots(full), least_word(full)), ((), (0, None)))
        for value in ((0, None), [0, None], (False, None), (0, "+II"), (0,), None, (0, None, None), (0, False), (1, None)):
            self.assertIs(shows_least_word(full, value), type(value) is tuple and value == (0, None)
                          and type(value[0]) is int)

    def check_moved(self, chance, guard, lot):
        """Whether something was moved; what is told of it is checked."""
        kept = sorted(oracle_guards.kept_words(guard))
        pairs = turned_frame(guard, frame(guard), tuple(chance.choice(kept) for _ in range(3)) if kept else ())
        if may_be_lost(guard, lot):
            more = [tuple((numbers, ()) for _ in pairs) for numbers in some_of(guard.words)]
            self.check_told(moved, shows_moved, right_moved, (guard, lot, pairs), more, most=30)
            return guard.kept > 0 and lot != ()
        for function, rest in ((moved, ()), (shows_moved, (None,))):
            with self.assertRaises(MustNot) as caught:
                function(guard, lot, pairs, *rest)
            self.assertTrue(right_lost(guard, lot, ("must not", caught.exception.value)))
        return False

    def test_moved(self):
        for turn in range(80):
            chance = random.Random(turn)
            guard = some_guard(turn)
            self.check_moved(chance, guard, chance.choice(all_lots(guard.wires)))
        some = []
        for turn in range(20):
            chance = random.Random(turn)
            single = tuple(chance.choice("hs") + f" {chance.randrange(4)}" for _ in range(6))
            guard = led_guard(multiplied(chance, FIVE if turn % 4 == 0 else FOUR), single)
            some.append(self.check_moved(chance, guard, chance.choice(all_lots(guard.wires)[:8])))
        self.assertGreater(some.count(True), 8)

    def test_all_ways_to_move(self):
        guard = Guard("wires 3\nguard +ZZI\nguard +XXI")
        pairs = (("+XXX", "+IIZ"),)
        ways = [(a, b) for a in some_of(guard.words) for b in some_of(guard.words)
                if shows_moved(guard, (0,), pairs, ((a, b),))]
        self.assertEqual(ways, [((1,), ())])
        ways = [(a, b) for a in some_of(guard.words) for b in some_of(guard.words)
                if shows_moved(guard, (), pairs, ((a, b),))]
        self.assertEqual(len(ways), 16)

    def test_least_lots(self):
        for guard in some_guards() + [some_guard(turn) for turn in range(40)] + [FIVE, FOUR, PAIR]:
            self.assertEqual(least_lots(guard), oracle_guards.least_lots(guard))
        self.assertEqual(least_lots(Guard("wires 3")), ((0,), (1,), (2,)))
        self.assertEqual(least_lots(Guard("wires 3\nguard +ZII\nguard +IXX")), ((1,), (2,)))

    def test_least_word(self):
        for guard in some_guards() + [some_guard(turn) for turn in range(40)]:
            told = least_word(guard)
            self.assertTrue(right_least_word(guard, told))
            words = [(told[0], word) for word in sorted(all_words(guard.wires))[::3]]
            self.check_shows(shows_least_word, right_least_word, (guard,), [told] + words)
        self.check_told(least_word, shows_least_word, right_least_word, (FOUR,))

    def test_apart(self):
        for turn in range(100):
            guard = some_guard(turn)
            chance = random.Random(turn)
            one, other = chance.choice(all_lots(guard.wires)), chance.choice(all_lots(guard.wires))
            others = [("apart", guard.words), ("apart", multiplied(chance, guard).words)]
            others += [("tied", random_word(chance, guard.wires)) for _ in range(6)]
            self.check_told(apart, shows_apart, right_apart, (guard, one, other), others, most=20)

    def test_apart_or_tied_by_all_words(self):
        for guard in some_guards()[::2]:
            every = sorted(all_words(guard.wires))
            chance = random.Random(1)
            for one in all_lots(guard.wires):
                for other in chance.sample(all_lots(guard.wires), 2):
                    told = apart(guard, one, other)
                    ties = [word for word in every if shows_apart(guard, one, other, ("tied", word))]
                    self.assertEqual(ties, [word for word in every if right_apart(guard, one, other, ("tied", word))])
                    self.assertEqual(told[0], "tied" if ties else "apart")
                    self.assertTrue(right_apart(guard, one, other, told))

    def test_lots_that_are_apart_may_be_lost_together(self):
        for guard in [some_guard(turn) for turn in range(40)] + [FIVE]:
            lots = [lot for lot in all_lots(guard.wires) if may_be_lost(guard, lot)]
            for one in lots[::2]:
                for other in lots[::3]:
                    if apart(guard, one, other)[0] == "apart":
                        self.assertTrue(may_be_lost(guard, tuple(sorted({*one, *other}))))

    def test_contraries_tell_the_same(self):
        for turn in range(30):
            guard = some_guard(turn)
            other = opposite(random.Random(turn), guard)
            self.assertEqual(least_lots(guard), least_lots(other))
            self.assertEqual(least_word(guard)[0], least_word(other)[0])
            for lot in all_lots(guard.wires):
                self.assertEqual(lost(guard, lot)[0], lost(other, lot)[0])
                self.assertEqual(lying(guard, lot)[1], lying(other, lot)[1])

    def test_the_group_alone_counts(self):
        for turn in range(30):
            guard = some_guard(turn)
            other = multiplied(random.Random(turn), guard)
            self.assertEqual(least_lots(guard), least_lots(other))
            self.assertTrue(right_least_word(guard, least_word(other)))
            for lot in all_lots(guard.wires):
                self.assertTrue(right_lost(guard, lot, lost(other, lot)))
                self.assertTrue(right_lying(guard, lot, lying(other, lot)))

    def test_wires_exchanged(self):
        for turn in range(20):
            guard = some_guard(turn)
            wires = list(range(guard.wires))
            random.Random(turn).shuffle(wires)
            other = exchanged(guard, tuple(wires))
            self.assertEqual(least_word(guard)[0], least_word(other)[0])
            for lot in all_lots(guard.wires):
                its = tuple(sorted(wires.index(wire) for wire in lot))
                self.assertEqual(lost(guard, lot)[0], lost(other, its)[0])

    def test_six_wires(self):
        for turn in range(24):
            chance = random.Random(turn)
            guard = random_guard(chance, 6, turn % 7)
            one, other = chance.choice(all_lots(6)), chance.choice(all_lots(6))
            letters = random_letters(chance, 6)
            self.assertIs(shows_lying(guard, one, lying(guard, one)), True)
            self.assertIs(shows_cleaned(guard, one, letters, cleaned(guard, one, letters)), True)
            self.assertIs(shows_lost(guard, one, lost(guard, one)), True)
            self.assertIs(shows_apart(guard, one, other, apart(guard, one, other)), True)
            self.assertIs(shows_least_word(guard, least_word(guard)), True)
            if lost(guard, one)[0] == "may":
                pairs = frame(guard)
                self.assertIs(shows_moved(guard, one, pairs, moved(guard, one, pairs)), True)
            for lot in least_lots(guard):
                self.assertEqual(lost(guard, lot)[0], "must not")

    def test_values_of_all_kinds(self):
        for guard in (PAIR, Guard("wires 2"), Guard("wires 2\nguard +XX\nguard +ZZ")):
            self.check_junk(shows_least_word, right_least_word, (guard,))
            for lot in all_lots(2):
                self.check_junk(shows_lying, right_lying, (guard, lot))
                self.check_junk(shows_lost, right_lost, (guard, lot))
                self.check_junk(shows_cleaned, right_cleaned, (guard, lot, "XI"))
                self.check_junk(shows_apart, right_apart, (guard, lot, (0,)))
        self.check_junk(shows_moved, right_moved, (FOUR, (1,), OFF))
        self.check_junk(shows_moved, right_moved, (PAIR, (), (("+XX", "+ZI"),)))

    def test_wrong_arguments(self):
        lot = (BadLot, lambda value: is_numbers(value, 2))
        letters = (BadLetters, lambda value: is_letters(value, 2))
        framed = (BadFrame, lambda value: right_frame(PAIR, value))
        for function in (lying, lost):
            self.check_wrong(function, (PAIR, (0,)), [None, lot])
        for function in (shows_lying, shows_lost):
            self.check_wrong(function, (PAIR, (0,), 0), [None, lot, None])
        self.check_wrong(cleaned, (PAIR, (0,), "XX"), [None, lot, letters])
        self.check_wrong(shows_cleaned, (PAIR, (0,), "XX", 0), [None, lot, letters, None])
        self.check_wrong(moved, (PAIR, (), (("+XX", "+ZI"),)), [None, lot, framed])
        self.check_wrong(shows_moved, (PAIR, (), (("+XX", "+ZI"),), 0), [None, lot, framed, None])
        self.check_wrong(apart, (PAIR, (0,), (1,)), [None, lot, lot])
        self.check_wrong(shows_apart, (PAIR, (0,), (1,), 0), [None, lot, lot, None])
        for value in ((1, 0), (0, 0), [0], (2,), (-1,), (True,), "0", 0, None, (0, None), (0, "1")):
            self.check_refused(lost, (PAIR, ()), {1: value}, BadLot)
        # A wrong frame is told ahead of a lot that must not be lost.
        self.check_refused(moved, (PAIR, (0,), (("+XX", "+ZI"),)), {2: ()}, BadFrame)

    def test_numbers_are_no_bools(self):
        self.assertIs(shows_cleaned(FOUR, (0,), "XXII", ("moved", (0,), "IIXX")), True)
        self.assertIs(shows_cleaned(FOUR, (0,), "XXII", ("moved", (False,), "IIXX")), False)
        self.assertIs(shows_cleaned(FOUR, (0,), "XXII", ("moved", (0,), "+IIXX")), False)
        self.assertIs(shows_moved(FOUR, (1,), OFF, (((0,), ()), ((), (1,)))), True)
        self.assertIs(shows_moved(FOUR, (1,), OFF, (((False,), ()), ((), (1,)))), False)
        self.assertIs(shows_moved(FOUR, (1,), OFF, (((0,), ()), [(), (1,)])), False)
        self.assertIs(shows_least_word(PAIR, (1, "-IZ")), True)
        self.assertIs(shows_least_word(PAIR, (True, "-IZ")), False)
        self.assertIs(shows_least_word(PAIR, (1, "-ZZ")), False)

    def test_names(self):
        for function, names, args in (
                (lying, "guard lot", (PAIR, (0,))), (shows_lying, "guard lot value", (PAIR, (0,), 0)),
                (cleaned, "guard lot letters", (PAIR, (0,), "XX")),
                (shows_cleaned, "guard lot letters value", (PAIR, (0,), "XX", 0)), (lost, "guard lot", (PAIR, (0,))),
                (shows_lost, "guard lot value", (PAIR, (0,), 0)), (moved, "guard lot pairs", (FOUR, (1,), OFF)),
                (shows_moved, "guard lot pairs value", (FOUR, (1,), OFF, 0)), (least_lots, "guard", (PAIR,)),
                (least_word, "guard", (PAIR,)), (shows_least_word, "guard value", (PAIR, 0)),
                (apart, "guard one other", (PAIR, (0,), (1,))),
                (shows_apart, "guard one other value", (PAIR, (0,), (1,), 0))):
            self.check_names(function, names, args)
            self.assertEqual(function.__module__, "guardedwires.losing")
            self.assertIs(getattr(losing, function.__name__), function)


if __name__ == "__main__":
    unittest.main()
