"""Section 10: frames."""

import random
import unittest
from itertools import product as rows_of

from guardedwires import frames
from guardedwires.errors import BadFrame, BadWord, BadWords, NotKept
from guardedwires.frames import frame, same_frame, shows_frame, shows_turned_frame, told_in, turned_frame
from guardedwires.guards import Guard
from tests import oracle_guards
from tests.checking import Checking, all_guards, product_word, random_guard
from tests.oracle import all_words, by_letters, contrary, is_tuple, is_word
from tests.oracle_guards import group, is_kept, kept_words, likeness, right_frame, right_turned_frame

THREE = Guard("wires 3\nguard +ZZI\nguard +IZZ")
PAIRS = (("+XXX", "+ZII"),)


def some_guard(turn, most=4):
    n = 1 + turn % most
    return random_guard(random.Random(turn), n, (turn // most) % (n + 1))


def is_frame(guard):
    return lambda value: right_frame(guard, value)


def like(chance, guard, pairs):
    """A frame whose words are alike to these, some to their contraries."""
    words = sorted(group(guard))
    return tuple(tuple(product_word(chance.choice(words), contrary(word) if chance.randrange(3) == 0 else word)
                       for word in pair) for pair in pairs)


def other_frame(chance, guard, pairs):
    """A frame that comes of this one by kept words."""
    words = tuple(chance.choice(sorted(kept_words(guard))) for _ in range(4)) if guard.kept else ()
    return turned_frame(guard, pairs, words)


class Frames(Checking):

    def test_frame(self):
        for turn in range(100):
            guard = some_guard(turn)
            told = frame(guard)
            self.assertTrue(right_frame(guard, told), (guard.text, told))
            self.assertEqual(told, frame(Guard(guard.text)))
            chance = random.Random(turn)
            more = [like(chance, guard, told), other_frame(chance, guard, told), told[::-1]]
            self.check_told(frame, shows_frame, right_frame, (guard,), more, most=80)
            for value in more:
                self.assertIs(shows_frame(guard, value), True)

    def test_frames_by_all_pairs(self):
        for guard in [Guard("wires 1")] + all_guards(2)[1:31:4]:
            every = list(rows_of(sorted(all_words(guard.wires)), repeat=2))
            shown = [pair for pair in every if shows_frame(guard, (pair,))]
            self.assertEqual(shown, [pair for pair in every if right_frame(guard, (pair,))])
            self.assertIn(frame(guard)[0], shown)

    def test_where_nothing_is_kept(self):
        full = Guard("wires 2\nguard +XX\nguard -ZZ")
        self.assertEqual(frame(full), ())
        self.assertIs(shows_frame(full, ()), True)
        self.assertIs(shows_frame(full, ((),)), False)
        self.assertIs(shows_frame(full, []), False)
        self.assertEqual(same_frame(full, (), ()), ("same",))
        self.assertEqual(turned_frame(full, (), ()), ())

    def test_near_frames(self):
        for value in ((("+XXX", "+XXX"),), (("+XXX", "+IIX"),), (("+XXX", "+ZZI"),), (("+XXX", "+XII"),), PAIRS * 2, (),
                      (("+XXX", "+ZII", "+ZII"),), (("XXX", "ZII"),), ["+XXX", "+ZII"], (["+XXX", "+ZII"],),
                      ("+XXX", "+ZII"), (("+XXX",),), (("+XXX", "+III"),)):
            self.assertIs(shows_frame(THREE, value), False, value)
        for value in ((("+ZII", "+XXX"),), (("-XXX", "-IZI"),), (("+YXX", "+ZZZ"),), (("+XYX", "+XXX"),)):
            self.assertIs(shows_frame(THREE, value), True, value)
        two = Guard("wires 2")
        self.assertIs(shows_frame(two, (("+XI", "+ZI"), ("+IX", "+IZ"))), True)
        self.assertIs(shows_frame(two, (("+XI", "+ZI"), ("+XX", "+IZ"))), False)
        self.assertIs(shows_frame(two, (("+XI", "+ZI"), ("+XI", "+ZI"))), False)

    def test_told_in(self):
        for turn in range(60):
            guard = some_guard(turn)
            chance = random.Random(turn)
            pairs = other_frame(chance, guard, frame(guard))
            for word in sorted(kept_words(guard))[::9]:
                firsts, seconds = told_in(guard, pairs, word)
                self.assertEqual((firsts, seconds), oracle_guards.told_in(guard, pairs, word))
                parts = [pairs[k][0][1:] for k in firsts] + [pairs[k][1][1:] for k in seconds]
                together = by_letters(parts + [word[1:]], guard.wires)
                self.assertIn(together, oracle_guards.group_letters(guard))

    def test_same_frame(self):
        for turn in range(120):
            guard = some_guard(turn)
            chance = random.Random(turn)
            pairs = other_frame(chance, guard, frame(guard))
            for other in (pairs, like(chance, guard, pairs), other_frame(chance, guard, pairs), pairs[::-1]):
                self.assertEqual(same_frame(guard, pairs, other), oracle_guards.same_frame(guard, pairs, other))

    def test_the_first_word_that_differs(self):
        two = Guard("wires 3\nguard +ZZZ")
        pairs = frame(two)
        first, second = pairs
        turned = (first[0], contrary(first[1]))
        self.assertEqual(same_frame(two, pairs, (turned, second)), ("signs", 0, 1))
        self.assertEqual(same_frame(two, pairs, (first, (contrary(second[0]), second[1]))), ("signs", 1, 0))
        self.assertEqual(same_frame(two, pairs, (turned, (second[1], second[0]))), ("signs", 0, 1))
        self.assertEqual(same_frame(two, pairs, (first, (second[1], second[0]))), ("other", 1, 0))
        for place in same_frame(two, pairs, (turned, second))[1:]:
            self.assertIs(type(place), int)

    def test_turned_frame(self):
        for turn in range(60):
            guard = some_guard(turn)
            chance = random.Random(turn)
            pairs = other_frame(chance, guard, frame(guard))
            kept = sorted(kept_words(guard))
            words = tuple(chance.choice(kept) for _ in range(chance.choice([0, 1, 3, 24]))) if kept else ()
            args = (guard, pairs, words)
            more = [pairs, like(chance, guard, turned_frame(*args)), other_frame(chance, guard, pairs)]
            self.check_told(turned_frame, shows_turned_frame, right_turned_frame, args, more, most=30)
            self.assertIs(shows_turned_frame(*args, more[1]), True)

    def test_turned_by_all_words_of_one_wire(self):
        guard = Guard("wires 1")
        words = sorted(kept_words(guard))
        every = [((x, z),) for x in words for z in words]
        for some in rows_of(words, repeat=2):
            for value in every:
                self.assertIs(shows_turned_frame(guard, (("+X", "+Z"),), some, value),
                              right_turned_frame(guard, (("+X", "+Z"),), some, value))

    def test_six_wires(self):
        for turn in range(20):
            chance = random.Random(turn)
            guard = random_guard(chance, 6, turn % 7)
            told = frame(guard)
            self.assertIs(shows_frame(guard, told), True)
            self.assertEqual(same_frame(guard, told, told), ("same",))
            words = tuple(word for pair in told for word in pair)[:24]
            self.assertIs(shows_turned_frame(guard, told, words, turned_frame(guard, told, words)), True)
            for number, pair in enumerate(told):
                self.assertEqual(told_in(guard, told, pair[0]), ((number,), ()))
                self.assertEqual(told_in(guard, told, pair[1]), ((), (number,)))

    def test_values_of_all_kinds(self):
        for guard in (THREE, Guard("wires 1"), Guard("wires 1\nguard +Z"), Guard("wires 2\nguard +ZZ")):
            self.check_junk(shows_frame, right_frame, (guard,))
            pairs = frame(guard)
            words = tuple(word for pair in pairs for word in pair)
            self.check_junk(shows_turned_frame, right_turned_frame, (guard, pairs, words))

    def test_wrong_arguments(self):
        two = Guard("wires 2\nguard +ZZ")
        pairs = (("+XX", "+ZI"),)
        framed, word = (BadFrame, is_frame(two)), (BadWord, lambda value: is_word(value, 2))
        words = (BadWords, lambda value: is_tuple(value) and len(value) <= 24 and all(is_kept(two, it) for it in value))
        self.check_wrong(told_in, (two, pairs, "+XX"), [None, framed, None])
        self.check_wrong(told_in, (two, pairs, "-YY"), [None, None, (BadWord, word[1])])
        self.check_wrong(same_frame, (two, pairs, pairs), [None, framed, framed])
        self.check_wrong(turned_frame, (two, pairs, ("+XX",)), [None, framed, words])
        self.check_wrong(shows_turned_frame, (two, pairs, ("+XX",), 0), [None, framed, words, None])
        for value in (None, "+XI", ["+XX"], (("+XX",),)):
            self.check_refused(told_in, (two, pairs, "+XX"), {1: value, 2: value}, BadFrame)

    def test_words_that_are_not_kept(self):
        for value in sorted(all_words(3)):
            if not is_kept(THREE, value):
                self.check_refused(told_in, (THREE, PAIRS, "+XXX"), {2: value}, NotKept)
                self.check_refused(turned_frame, (THREE, PAIRS, ()), {2: ("+XXX", value)}, BadWords)
        self.check_refused(turned_frame, (THREE, PAIRS, ()), {2: ("+XXX",) * 25}, BadWords)
        self.assertIs(shows_frame(THREE, turned_frame(THREE, PAIRS, ("+XXX",) * 24)), True)
        self.check_refused(turned_frame, (THREE, PAIRS, ()), {2: ["+XXX"]}, BadWords)

    def test_likes(self):
        self.assertEqual(likeness(THREE, "+XXX", "-YYX"), "alike")
        self.assertIs(shows_turned_frame(THREE, PAIRS, (), (("+YYX", "-IIZ"),)), True)
        self.assertIs(shows_turned_frame(THREE, PAIRS, (), (("+ZII", "+XXX"),)), False)

    def test_names(self):
        for function, names, args in (
                (frame, "guard", (THREE,)), (shows_frame, "guard value", (THREE, PAIRS)),
                (told_in, "guard pairs word", (THREE, PAIRS, "+XXX")),
                (same_frame, "guard pairs other", (THREE, PAIRS, PAIRS)),
                (turned_frame, "guard pairs words", (THREE, PAIRS, ("+ZII",))),
                (shows_turned_frame, "guard pairs words value", (THREE, PAIRS, ("+ZII",), PAIRS))):
            self.check_names(function, names, args)
            self.assertEqual(function.__module__, "guardedwires.frames")
            self.assertIs(getattr(frames, function.__name__), function)


if __name__ == "__main__":
    unittest.main()
