"""Section 4: words."""

import random
import unittest
from itertools import product as rows

from guardedwires import words
from guardedwires.errors import BadWord, BadWords, Bent
from guardedwires.words import contrary, independent, joined, passes, product, shows_independent, touched
from tests.checking import Checking, random_base, random_letters, random_word
from tests.oracle import BY, all_words, is_independent, is_tuple, is_word, right_independent, times, words_cross


def is_any_word(value):
    return any(is_word(value, n) for n in range(1, 7))


def is_words(value):
    return is_tuple(value) and 1 <= len(value) <= 12 and any(
        all(is_word(word, n) for word in value) for n in range(1, 7))


class Words(Checking):

    def test_the_table(self):
        for one, other in rows("IXYZ", repeat=2):
            letter, quarters = BY[one, other]
            for mine, its in rows("+-", repeat=2):
                more = 0 if mine == its else 2
                self.assertEqual(product(mine + one, its + other), ((quarters + more) % 4, letter))

    def test_all_words_of_two_wires(self):
        for one, other in rows(sorted(all_words(2)), repeat=2):
            self.assertIs(passes(one, other), not words_cross(one, other))
            self.assertEqual(product(one, other), times([one, other], 2))
            self.assertEqual(product(one, other)[0] % 2 == 1, words_cross(one, other))

    def test_words_of_one_to_six_wires(self):
        chance = random.Random(1)
        for turn in range(600):
            n = 1 + turn % 6
            one, other = random_word(chance, n), random_word(chance, n)
            self.assertIs(passes(one, other), not words_cross(one, other))
            self.assertEqual(product(one, other), times([one, other], n))
            quarters, letters = product(other, one)
            self.assertEqual(letters, product(one, other)[1])
            self.assertEqual((quarters + product(one, other)[0]) % 4 == 0 or passes(one, other), True)

    def test_joined(self):
        chance = random.Random(2)
        for turn in range(600):
            n = 1 + turn % 6
            some = tuple(random_word(chance, n) for _ in range(1 + turn % 12))
            quarters, letters = times(some, n)
            if quarters in (0, 2):
                self.assertEqual(joined(some), ("+", "-")[quarters // 2] + letters)
            else:
                with self.assertRaises(Bent) as caught:
                    joined(some)
                self.assertEqual(caught.exception.value, quarters)

    def test_bent_both_ways(self):
        for some, quarters in ((("+X", "+Y"), 1), (("+Y", "+X"), 3), (("-X", "+Y"), 3), (("+X", "+Z"), 3)):
            with self.assertRaises(Bent) as caught:
                joined(some)
            self.assertIs(type(caught.exception.value), int)
            self.assertEqual(caught.exception.value, quarters)
        self.assertEqual(joined(("+X", "+Y", "+Z", "+X", "+Y", "+Z")), "-I")
        self.assertEqual(joined(("-X",)), "-X")

    def test_contrary_and_touched(self):
        for word in sorted(all_words(3)):
            self.assertEqual(contrary(word), ("-" if word[0] == "+" else "+") + word[1:])
            self.assertEqual(touched(word), tuple(k for k in range(3) if word[k + 1] != "I"))
        self.assertEqual(touched("-IIIIII"), ())
        self.assertEqual(touched("+XIYIZX"), (0, 2, 4, 5))

    def test_independent_by_all_of_one_wire(self):
        every = sorted(all_words(1))
        for many in (1, 2, 3):
            for some in rows(every, repeat=many):
                told = self.check_told(independent, shows_independent, right_independent, (some,), most=12)
                self.assertEqual(told[0] == "independent", is_independent([word[1:] for word in some], 1))

    def test_just_one_of_both(self):
        every = sorted(all_words(2))[::3]
        for some in rows(every, repeat=2):
            products = [("product", numbers) for numbers in ((0,), (1,), (0, 1))]
            shown = [shows_independent(some, value) for value in products]
            self.assertIs(any(shown), not shows_independent(some, ("independent",)))
            self.assertEqual(shown, [right_independent(some, value) for value in products])

    def test_independent_of_many(self):
        chance = random.Random(3)
        for turn in range(40):
            n = 1 + turn % 4
            some = tuple(random_word(chance, n) for _ in range(1 + turn % 8))
            others = [("product", numbers) for numbers in ((), (0,), (0, 1), (0, 0), (1, 0), (0, 8))]
            self.check_told(independent, shows_independent, right_independent, (some,), others, most=60)

    def test_all_products_that_are_idle_do(self):
        some = ("+X", "-X", "+Z", "+Z", "+I")
        shown = [numbers for numbers in [(0, 1), (2, 3), (0, 1, 2, 3), (4,), (0, 1, 4), (0, 2), (0, 1, 2)]
                 if shows_independent(some, ("product", numbers))]
        self.assertEqual(shown, [(0, 1), (2, 3), (0, 1, 2, 3), (4,), (0, 1, 4)])

    def test_twelve_words_of_six_wires(self):
        chance = random.Random(4)
        some = random_base(chance, 6, 12)
        self.assertEqual(independent(some), ("independent",))
        self.assertIs(shows_independent(some, ("independent",)), True)
        self.assertIs(shows_independent(some, ("product", tuple(range(12)))), False)
        self.assertEqual(independent(some[:11] + ("+IIIIII",)), ("product", (11,)))
        every = tuple("+" + random_letters(chance, 6) for _ in range(11))
        last = "-" + times(every, 6)[1]
        self.assertIs(shows_independent(every + (last,), ("product", tuple(range(12)))), True)

    def test_values_of_all_kinds(self):
        self.check_junk(shows_independent, right_independent, (("+X", "-X", "+Z"),))
        self.check_junk(shows_independent, right_independent, (("+XI", "-IX"),))

    def test_wrong_arguments(self):
        for function in (passes, product):
            self.check_wrong(function, ("+XZ", "-IZ"),
                             [(BadWord, is_any_word), (BadWord, lambda value: is_word(value, 2))])
        for function in (contrary, touched):
            self.check_wrong(function, ("+XZ",), [(BadWord, is_any_word)])
        for function in (joined, independent):
            self.check_wrong(function, (("+XZ", "-ZX"),), [(BadWords, is_words)])
        self.check_wrong(shows_independent, (("+XZ",), None), [(BadWords, is_words), None])

    def test_words_that_are_almost_right(self):
        for value in ("+", "X", "+XYZXYZX", "+x", "+X ", " +X", "++X", "+-X", "+W", "-", "X+", "+X\n"):
            for call in (lambda: contrary(value), lambda: passes(value, "+X"), lambda: passes("+X", value)):
                with self.assertRaises(BadWord) as caught:
                    call()
                self.assertIs(caught.exception.value, value)
        for value in ((), ["+X"], ("+X", "+XX"), ("+X", "X"), ("+X", ("+X",)), ("+X",) * 13, "+X", ("+X", True)):
            with self.assertRaises(BadWords) as caught:
                joined(value)
            self.assertIs(caught.exception.value, value)
        self.assertEqual(joined(("+X",) * 12), "+I")

    def test_names(self):
        self.check_names(passes, "one other", ("+X", "+Z"))
        self.check_names(product, "one other", ("+X", "+Z"))
        self.check_names(joined, "words", (("+X", "+X"),))
        self.check_names(contrary, "word", ("+X",))
        self.check_names(touched, "word", ("+X",))
        self.check_names(independent, "words", (("+X",),))
        self.check_names(shows_independent, "words value", (("+X",), ("independent",)))
        for name in ("passes", "product", "joined", "contrary", "touched", "independent", "shows_independent"):
            self.assertEqual(getattr(words, name).__module__, "guardedwires.words")


if __name__ == "__main__":
    unittest.main()
