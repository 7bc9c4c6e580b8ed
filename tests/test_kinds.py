"""Section 9: what words are to a guard."""

import random
import unittest

from guardedwires import kinds
from guardedwires.errors import BadLetters, BadWord, NotKept
from guardedwires.guards import Guard
from guardedwires.kinds import alike_beside, kind, shows_alike_beside, shows_kind, signs
from tests import oracle_guards
from tests.checking import Checking, all_guards, random_guard, random_word
from tests.oracle import all_letters, all_words, is_letters, is_word, some_of
from tests.oracle_guards import is_kept, kept_words, likeness, right_alike_beside, right_kind

THREE = Guard("wires 3\nguard +ZZI\nguard +IZZ")


def some_guard(turn, most=4):
    n = 1 + turn % most
    return random_guard(random.Random(turn), n, (turn // most) % (n + 1))


class Kinds(Checking):

    def test_kind(self):
        for turn in range(60):
            guard = some_guard(turn)
            chance = random.Random(turn)
            words = [random_word(chance, guard.wires) for _ in range(3)]
            words += [chance.choice(sorted(oracle_guards.group(guard)))]
            for word in words:
                others = [(name, numbers) for name in ("guard", "contrary", "seen") for numbers in some_of(guard.words)]
                self.check_told(kind, shows_kind, right_kind, (guard, word), others, most=8)

    def test_just_one_kind_by_all_words(self):
        guards = all_guards(1) + all_guards(2)[::7] + [some_guard(turn, 3) for turn in range(2, 60, 6)]
        for guard in guards:
            every = sorted(all_words(guard.wires))
            for number, word in enumerate(every):
                told = kind(guard, word)
                self.assertEqual(told[0], oracle_guards.kind_name(guard, word))
                self.assertTrue(right_kind(guard, word, told))
                shown = [(name, numbers) for name in ("guard", "contrary", "seen") for numbers in some_of(guard.words)
                         if shows_kind(guard, word, (name, numbers))]
                self.assertEqual(shown, [] if told[0] == "kept" else [told])
                if guard.wires == 3 and number % 3:
                    continue
                mates = [mate for mate in every if shows_kind(guard, word, ("kept", mate))]
                self.assertEqual(mates != [], told[0] == "kept")
                self.assertEqual(mates, [mate for mate in every if right_kind(guard, word, ("kept", mate))])

    def test_letters_i_alone(self):
        for guard in (THREE, Guard("wires 3")):
            self.assertEqual((kind(guard, "+III"), kind(guard, "-III")), (("guard", ()), ("contrary", ())))
            self.assertEqual(signs(guard, "III"), ())

    def test_signs(self):
        for turn in range(40):
            guard = some_guard(turn)
            for letters in sorted(all_letters(guard.wires))[::3]:
                self.assertEqual(signs(guard, letters), oracle_guards.signs(guard, letters))
        full = Guard("wires 6\n" + "\n".join("guard +" + "I" * k + "Z" + "I" * (5 - k) for k in range(6)))
        self.assertEqual(signs(full, "XXXXXX"), (0, 1, 2, 3, 4, 5))

    def test_alike_beside(self):
        for turn in range(80):
            guard = some_guard(turn)
            if guard.kept:
                chance = random.Random(turn)
                words = sorted(kept_words(guard))
                word, other = chance.choice(words), chance.choice(words)
                if turn % 2:
                    other = chance.choice([it for it in words if likeness(guard, word, it) != "unlike"])
                others = [(name, numbers) for name in ("alike", "contrary") for numbers in some_of(guard.words)]
                others += [("unlike", chance.choice(words)), ("unlike", random_word(chance, guard.wires))]
                told = self.check_told(alike_beside, shows_alike_beside, right_alike_beside, (guard, word, other),
                                       others, most=12)
                self.assertEqual(told[0], likeness(guard, word, other))

    def test_just_one_of_three_by_all_words(self):
        for guard in all_guards(1)[:1] + all_guards(2)[:20:3] + [THREE]:
            words = sorted(kept_words(guard))
            for word in words[::3]:
                for other in words[::2]:
                    alike = [numbers for numbers in some_of(guard.words)
                             if shows_alike_beside(guard, word, other, ("alike", numbers))]
                    against = [numbers for numbers in some_of(guard.words)
                               if shows_alike_beside(guard, word, other, ("contrary", numbers))]
                    apart = [it for it in sorted(all_words(guard.wires))
                             if shows_alike_beside(guard, word, other, ("unlike", it))]
                    self.assertEqual([alike != [], against != [], apart != []].count(True), 1)
                    found = "alike" if alike else "contrary" if against else "unlike"
                    self.assertEqual(found, likeness(guard, word, other))

    def test_a_word_and_its_contrary(self):
        self.assertEqual(alike_beside(THREE, "+XXX", "+XXX"), ("alike", ()))
        self.assertEqual(alike_beside(THREE, "+XXX", "-XXX"), ("contrary", ()))
        self.assertEqual(alike_beside(THREE, "+XXX", "-YYX"), ("alike", (0,)))
        self.assertEqual(alike_beside(THREE, "+XXX", "+YYX"), ("contrary", (0,)))

    def test_six_wires(self):
        for turn in range(30):
            guard = random_guard(random.Random(turn), 6, turn % 6)
            chance = random.Random(turn)
            for _ in range(6):
                word = random_word(chance, 6)
                self.assertIs(shows_kind(guard, word, kind(guard, word)), True)

    def test_values_of_all_kinds(self):
        for word in ("+ZIZ", "-ZZI", "+XII", "+XXX", "-III"):
            self.check_junk(shows_kind, right_kind, (THREE, word))
        for word, other in (("+ZII", "+IIZ"), ("+ZII", "-IZI"), ("+ZII", "+XXX")):
            self.check_junk(shows_alike_beside, right_alike_beside, (THREE, word, other))

    def test_wrong_arguments(self):
        word = (BadWord, lambda value: is_word(value, 3))
        self.check_wrong(kind, (THREE, "+XXX"), [None, word])
        self.check_wrong(shows_kind, (THREE, "+XXX", 0), [None, word, None])
        self.check_wrong(signs, (THREE, "XXX"), [None, (BadLetters, lambda value: is_letters(value, 3))])
        self.check_wrong(alike_beside, (THREE, "+XXX", "+ZII"), [None, word, word])
        self.check_wrong(shows_alike_beside, (THREE, "+XXX", "+ZII", 0), [None, word, word, None])

    def test_words_that_are_not_kept(self):
        for value in sorted(all_words(3)):
            if not is_kept(THREE, value):
                for function, rest in ((alike_beside, ()), (shows_alike_beside, (("alike", ()),))):
                    args = (THREE, "+XXX", "+ZII") + rest
                    self.check_refused(function, args, {1: value}, NotKept)
                    self.check_refused(function, args, {2: value}, NotKept)
                    self.check_refused(function, args, {1: value, 2: "-III"}, NotKept)
                    with self.assertRaises(BadWord) as caught:
                        function(THREE, value, "+ZI", *rest)
                    self.assertEqual(caught.exception.value, "+ZI")

    def test_names(self):
        for function, names, args in (
                (kind, "guard word", (THREE, "+XXX")), (shows_kind, "guard word value", (THREE, "+XXX", 0)),
                (signs, "guard letters", (THREE, "XII")), (alike_beside, "guard word other", (THREE, "+XXX", "+ZII")),
                (shows_alike_beside, "guard word other value", (THREE, "+XXX", "+ZII", 0))):
            self.check_names(function, names, args)
            self.assertEqual(function.__module__, "guardedwires.kinds")
            self.assertIs(getattr(kinds, function.__name__), function)


if __name__ == "__main__":
    unittest.main()
