"""Section 16: steering."""

import random
from itertools import product

from guardedwires import steering
from guardedwires.errors import BadFrame, BadWord, NotKept, NoWords
from guardedwires.frames import frame, same_frame
from guardedwires.guards import Guard, led_guard
from guardedwires.looks import gone
from guardedwires.steering import shows_steer, shows_turned_by, steer, turned_by
from tests.checking import (Checking, guard_of, liked_pairs, multiplied, random_gates, random_guard, some_guard,
                            some_near, turned_pairs)
from tests.oracle import all_words, contrary, is_word, led, words_cross
from tests.oracle_guards import kept_words, kind_name, right_frame
from tests.oracle_looks import all_went, right_steer, right_turned_by

ONE = Guard("wires 2\nguard +ZI")
PAIRS = (("+IX", "+IZ"),)
BACK = ("+XX", "+YI", "+ZI")


def keeping(turn, most=4):
    """A Guard of two wires or more that has a word and keeps something."""
    n = 2 + turn % (most - 1)
    return random_guard(random.Random(turn), n, 1 + turn % (n - 1))


class Steering(Checking):

    def test_turned_by(self):
        for turn in range(80):
            guard = keeping(turn)
            chance = random.Random(turn)
            pairs = turned_pairs(chance, guard)
            word = chance.choice(sorted(kept_words(guard)))
            args = (guard, pairs, word)
            looks, later = self.check_told(turned_by, shows_turned_by, right_turned_by, args, most=30)
            self.assertEqual(gone(guard, pairs, looks), later)
            for k in range(8):
                some = tuple(contrary(look) if k >> at & 1 else look for at, look in enumerate(looks))
                came = all_went(guard.words, pairs, some)[1]
                self.check_shows(shows_turned_by, right_turned_by, args, [(some, came), (some, later)])

    def test_turned_by_all_words(self):
        for guard in (ONE, Guard("wires 2\nguard -YX"), Guard("wires 3\nguard +ZZI\nguard -XXI")):
            pairs = frame(guard)
            for word in sorted(kept_words(guard)):
                self.assertTrue(right_turned_by(guard, pairs, word, turned_by(guard, pairs, word)))

    def test_turned_by_all_rows_of_three_looks(self):
        every = sorted(all_words(2))
        chance = random.Random(4)
        for word in ("+IX", "-IY", "+ZZ"):
            some = [tuple(chance.choice(every) for _ in range(2)) + ("+ZI",) for _ in range(150)]
            values = [(looks, all_went(ONE.words, PAIRS, looks)[1]) for looks in some + [BACK, ("-XX", "+YI", "+ZI")]]
            self.check_shows(shows_turned_by, right_turned_by, (ONE, PAIRS, word), values)

    def test_near_turns(self):
        later = (("+IX", "-IY"),)
        self.assertIs(shows_turned_by(ONE, PAIRS, "+IX", (BACK, later)), True)
        self.assertIs(shows_turned_by(ONE, PAIRS, "-IX", (BACK, later)), True)
        self.assertIs(shows_turned_by(ONE, PAIRS, "+ZX", (BACK, later)), True)
        for word, value in (("+IZ", (BACK, later)), ("+IX", (BACK, (("+IX", "+IY"),))), ("+IX", (BACK, (("+IX", "-ZY"),))),
                            ("+IX", (list(BACK), later)), ("+IX", [BACK, later]), ("+IX", (BACK + ("+ZI",), later)),
                            ("+IX", (BACK[:2] + ("-ZI",), (("+IX", "+IY"),))), ("+IX", (BACK,)), ("+IX", (BACK, ["+IX", "-IY"])),
                            ("+IX", (("+XX", "+YI", "+YI"), later)), ("+IX", (("+ZI", "+XI", "+ZI"), PAIRS)),
                            ("+IX", (BACK, later[0]))):
            self.assertIs(shows_turned_by(ONE, PAIRS, word, value), False, value)

    def test_rows_of_more_and_fewer_looks(self):
        for looks, pairs in ((BACK + ("+XI", "+ZI"), PAIRS), (BACK[:2], PAIRS), (("+XI", "+ZI"), PAIRS), ((), PAIRS),
                             (("+XI", "+ZI") + BACK, PAIRS)):
            self.assertIs(shows_turned_by(ONE, pairs, "+IX", (looks, all_went(ONE.words, pairs, looks)[1])), False)

    def test_turned_twice_by_the_same_looks(self):
        for turn in range(40):
            guard = keeping(turn)
            chance = random.Random(turn)
            pairs = turned_pairs(chance, guard)
            word = chance.choice(sorted(kept_words(guard)))
            looks = turned_by(guard, pairs, word)[0]
            wanted = tuple(tuple(contrary(one) if words_cross(one, word) else one for one in pair) for pair in pairs)
            self.assertEqual(same_frame(guard, gone(guard, pairs, looks + looks), wanted), ("same",))
            self.assertIs(shows_steer(guard, pairs, wanted, looks + looks), True)

    def test_nothing_is_read_however_answers_fall(self):
        for turn in range(40):
            guard = keeping(turn)
            chance = random.Random(turn)
            pairs = turned_pairs(chance, guard)
            looks = steer(guard, pairs, turned_pairs(chance, guard)) + turned_by(guard, pairs, pairs[0][0])[0]
            heard = tuple(chance.choice((word, contrary(word))) for word in looks)
            self.assertIsNone(all_went(guard.words, pairs, heard)[2])

    def test_steer(self):
        for turn in range(90):
            guard = keeping(turn)
            chance = random.Random(turn)
            pairs = turned_pairs(chance, guard)
            for other in (turned_pairs(chance, guard), liked_pairs(chance, guard, pairs, contraries=True)):
                looks = steer(guard, pairs, other)
                self.assertEqual(looks, steer(guard, pairs, other))
                self.assertTrue(right_steer(guard, pairs, other, looks))
                self.assertLessEqual(len(looks), 66)
                values = [looks, (), looks + BACK[:1]] + some_near(looks, 15)
                self.check_shows(shows_steer, right_steer, (guard, pairs, other), values)

    def test_steer_to_all_frames_of_one_pair(self):
        words = ("IX", "IY", "IZ")
        frames = [((a + one, b + other),) for one, other in product(words, repeat=2) if one != other
                  for a in "+-" for b in "+-"]
        self.assertEqual(len(frames), 24)
        for pairs in frames:
            for other in frames:
                self.assertTrue(right_steer(ONE, pairs, other, steer(ONE, pairs, other)))

    def test_nothing_to_do(self):
        for turn in range(30):
            guard = some_guard(turn)
            chance = random.Random(turn)
            pairs = turned_pairs(chance, guard)
            other = liked_pairs(chance, guard, pairs)
            self.assertIs(shows_steer(guard, pairs, other, ()), True)
            self.assertIs(shows_steer(guard, pairs, other, steer(guard, pairs, other)), True)
        full = Guard("wires 2\nguard +XX\nguard -ZZ")
        self.assertIs(shows_steer(full, (), (), steer(full, (), ())), True)
        self.assertIs(shows_steer(full, (), (), ("+XI", "+XX", "-ZZ")), False)
        self.assertIs(shows_steer(full, (), (), ("+XI", "-ZZ")), True)

    def test_looks_at_words_of_the_group_are_none_of_seen_words(self):
        self.assertIs(shows_steer(ONE, PAIRS, PAIRS, ("+ZI",)), False)
        self.assertIs(shows_steer(ONE, PAIRS, PAIRS, ("+XI", "+ZI")), True)
        self.assertIs(shows_steer(ONE, PAIRS, PAIRS, ("+XI", "-ZI")), False)
        self.assertIs(shows_steer(ONE, PAIRS, PAIRS, ["+XI", "+ZI"]), False)
        self.assertIs(shows_steer(ONE, PAIRS, PAIRS, ("+XI", "+ZI") * 49), True)
        self.assertIs(shows_steer(ONE, PAIRS, PAIRS, ("+XI", "+ZI") * 50), False)
        self.assertIs(shows_steer(ONE, PAIRS, (("+IX", "-IZ"),), ("+XI", "+ZI")), False)

    def test_guards_without_words(self):
        bare = Guard("wires 2")
        pairs = (("+XI", "+ZI"), ("+IX", "+IZ"))
        self.assertEqual(steer(bare, pairs, pairs), ())
        self.assertIs(shows_steer(bare, pairs, pairs, ()), True)
        self.assertIs(shows_steer(bare, pairs, pairs, ("+XI",)), False)
        for other in (pairs[::-1], (("-XI", "+ZI"), ("+IX", "+IZ"))):
            for function, args in ((steer, (bare, pairs, other)), (shows_steer, (bare, pairs, other, ()))):
                self.check_refused(function, args, {0: bare}, NoWords)
        for function, args in ((turned_by, (bare, pairs, "+XI")), (shows_turned_by, (bare, pairs, "+XI", 0))):
            self.check_refused(function, args, {0: bare}, NoWords)
            self.check_refused(function, args, {2: "+II"}, NotKept)
            self.check_refused(function, args, {1: (), 2: "+II"}, BadFrame)

    def test_six_wires(self):
        longest = 0
        for turn in range(15):
            chance = random.Random(turn)
            guard = random_guard(chance, 6, 1 + turn % 5 if turn % 2 else 1)
            pairs, other = turned_pairs(chance, guard), turned_pairs(chance, guard)
            looks = steer(guard, pairs, other)
            longest = max(longest, len(looks))
            self.assertLessEqual(len(looks), 66)
            self.assertIs(shows_steer(guard, pairs, other, looks), True)
            self.assertEqual(same_frame(guard, gone(guard, pairs, looks), other), ("same",))
            word = pairs[0][0]
            self.assertIs(shows_turned_by(guard, pairs, word, turned_by(guard, pairs, word)), True)
        self.assertGreater(longest, 30)

    def test_pairs_that_change_places(self):
        guard = guard_of(6, ("+ZIIIII",))
        pairs = frame(guard)
        for other in (pairs[::-1], tuple(pair[::-1] for pair in pairs), pairs[1:] + pairs[:1],
                      tuple((contrary(one), mate) for one, mate in pairs)):
            looks = steer(guard, pairs, other)
            self.assertLessEqual(len(looks), 66)
            self.assertIs(shows_steer(guard, pairs, other, looks), True)

    def test_led_along_by_gates(self):
        for turn in range(30):
            guard = keeping(turn)
            chance = random.Random(turn)
            gates = random_gates(chance, guard.wires, 12)
            mine = led_guard(guard, gates)
            pairs, other = turned_pairs(chance, guard), turned_pairs(chance, guard)
            leads = [tuple(tuple(led(word, gates) for word in pair) for pair in some) for some in (pairs, other)]
            looks = tuple(led(word, gates) for word in steer(guard, pairs, other))
            self.assertIs(shows_steer(mine, leads[0], leads[1], looks), True)
            word = pairs[0][1]
            looks, later = turned_by(guard, pairs, word)
            along = tuple(tuple(led(one, gates) for one in pair) for pair in later)
            value = (tuple(led(look, gates) for look in looks), along)
            self.assertIs(shows_turned_by(mine, leads[0], led(word, gates), value), True)

    def test_groups_alone(self):
        for turn in range(30):
            guard = keeping(turn)
            chance = random.Random(turn)
            pairs, other = turned_pairs(chance, guard), turned_pairs(chance, guard)
            self.assertIs(shows_steer(multiplied(chance, guard), pairs, other, steer(guard, pairs, other)), True)

    def test_values_of_all_kinds(self):
        self.check_junk(shows_turned_by, right_turned_by, (ONE, PAIRS, "+IX"))
        self.check_junk(shows_steer, right_steer, (ONE, PAIRS, PAIRS))
        self.check_junk(shows_steer, right_steer, (ONE, PAIRS, (("+IZ", "+IX"),)))
        self.check_junk(shows_steer, right_steer, (Guard("wires 1\nguard +Z"), (), ()))

    def test_wrong_arguments(self):
        framed = (BadFrame, lambda value: right_frame(ONE, value))
        word = (BadWord, lambda value: is_word(value, 2))
        self.check_wrong(turned_by, (ONE, PAIRS, "+IX"), [None, framed, word])
        self.check_wrong(shows_turned_by, (ONE, PAIRS, "+IX", 0), [None, framed, word, None])
        self.check_wrong(steer, (ONE, PAIRS, PAIRS), [None, framed, framed])
        self.check_wrong(shows_steer, (ONE, PAIRS, PAIRS, 0), [None, framed, framed, None])
        for value in sorted(all_words(2)):
            if kind_name(ONE, value) != "kept":
                self.check_refused(turned_by, (ONE, PAIRS, "+IX"), {2: value}, NotKept)
                self.check_refused(shows_turned_by, (ONE, PAIRS, "+IX", 0), {2: value}, NotKept)

    def test_names(self):
        for function, names, args in (
                (turned_by, "guard pairs word", (ONE, PAIRS, "+IX")),
                (shows_turned_by, "guard pairs word value", (ONE, PAIRS, "+IX", 0)),
                (steer, "guard pairs other", (ONE, PAIRS, PAIRS)),
                (shows_steer, "guard pairs other value", (ONE, PAIRS, PAIRS, 0))):
            self.check_names(function, names, args)
            self.assertEqual(function.__module__, "guardedwires.steering")
            self.assertIs(getattr(steering, function.__name__), function)
