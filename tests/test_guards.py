"""Section 8: guards."""

import random
import unittest
from itertools import permutations

from guardedwires import guards
from guardedwires.errors import (BadGates, BadGuard, BadOther, BadWires, BadWord, Crosses, Made, NoWord, OtherWires,
                                 Wide)
from guardedwires.guards import (Guard, exchanged, group, in_steps, led_guard, same_group, shows_same_group,
                                 side_by_side)
from tests import oracle, oracle_guards
from tests.checking import (THING, Checking, all_guards, junk, multiplied, opposite, random_gates, random_guard,
                            random_word)
from tests.oracle import all_words, is_gates, is_int, is_word, some_of, words_cross
from tests.oracle_guards import right_same_group, stands_in_steps

THREE = Guard("wires 3\nguard +ZZI\nguard +IZZ")
FOUR = Guard("wires 4\nguard +XXXX\nguard +ZZZZ")


def is_all_wires(n):
    return lambda value: type(value) is tuple and all(is_int(k) for k in value) and sorted(value) == list(range(n))


class Texts(Checking):

    def check_text(self, text, number):
        with self.assertRaises(BadGuard, msg=text) as caught:
            Guard(text)
        self.assertIs(type(caught.exception.value), int)
        self.assertEqual(caught.exception.value, number, text)

    def test_what_is_told_of_a_text(self):
        for turn in range(60):
            n = 1 + turn % 6
            guard = random_guard(random.Random(turn), n, turn % (n + 1))
            lines = guard.text.split("\n")
            self.assertEqual(guard.wires, n)
            self.assertEqual(guard.words, tuple(line[6:] for line in lines[1:]))
            self.assertEqual(guard.kept, n - len(guard.words))
            self.assertEqual(len(guard), len(guard.words))
            self.assertEqual(Guard(text=guard.text), guard)

    def test_edges(self):
        empty = Guard("wires 6")
        self.assertEqual((empty.wires, empty.words, empty.kept, len(empty), empty.text), (6, (), 6, 0, "wires 6"))
        full = Guard("wires 1\nguard -Y")
        self.assertEqual((full.wires, full.words, full.kept, len(full)), (1, ("-Y",), 0, 1))
        six = Guard("wires 6\n" + "\n".join("guard +" + "I" * k + "Z" + "I" * (5 - k) for k in range(6)))
        self.assertEqual((six.kept, len(six)), (0, 6))

    def test_values_that_are_no_strings(self):
        for value in junk():
            if not isinstance(value, str):
                self.check_text(value, 0)

    def test_first_lines(self):
        for text in ("", "\n", "wires", "wires ", "wires 0", "wires 7", "wires 10", "wires 01", "wires +1", "wires  1",
                     " wires 1", "wires 1 ", "Wires 1", "wires one", "wire 1", "wires 1 1", "wires\n1", "guard +X",
                     "wires\t1", "wires 1.0", "guard +X\nwires 1", "\nwires 1", "wires -1", "wires 1guard +X"):
            self.check_text(text, 1)

    def test_other_lines(self):
        head = "wires 2\nguard +XX\n"
        for line in ("", "guard", "guard ", "guard ZZ", "guard +Z", "guard +ZZZ", "guard +zz", "Guard +ZZ", " guard +ZZ",
                     "guard  +ZZ", "guard +ZZ ", "guard + ZZ", "+ZZ", "guard +ZZ +YY", "guard\t+ZZ", "wires 2",
                     "guard +ZI", "guard -IY", "guard +XX", "guard -XX", "guard +II", "guard -II", "guard ++ZZ", "x",
                     "guard +ZW"):
            self.check_text(head + line, 3)
            self.check_text(head + line + "\nguard +ZZ", 3)
            self.check_text(head + line + "\nx", 3)
            self.check_text("wires 2\n" + line + "\n" + line, 2 if line not in ("guard +XX", "guard -XX", "guard +ZI",
                                                                                "guard -IY") else 3)
        self.assertEqual(Guard(head + "guard -ZZ").words, ("+XX", "-ZZ"))

    def test_line_feeds_at_the_end(self):
        self.check_text("wires 1\n", 2)
        self.check_text("wires 1\nguard +X\n", 3)
        self.check_text("wires 2\nguard +XI\n\nguard +IX", 3)

    def test_more_words_than_wires(self):
        self.check_text("wires 1\nguard +X\nguard +X", 3)
        self.check_text("wires 1\nguard +X\nguard +Z", 3)
        self.check_text("wires 2\nguard +XX\nguard +ZZ\nguard -YY", 4)
        self.check_text("wires 2\nguard +XX\nguard +ZZ\nguard +YY\nguard +XX", 4)

    def test_products_and_contraries_of_words_ahead(self):
        for word in ("+YY", "-YY"):
            self.check_text("wires 3\nguard +XXI\nguard +ZZI\nguard +IIZ\nguard " + word + "I", 5)
            self.check_text("wires 3\nguard +XXI\nguard +ZZI\nguard " + word + "Z\nguard +IIZ", 5)
        self.assertEqual(len(Guard("wires 3\nguard +XXI\nguard +ZZI\nguard +YYZ")), 3)

    def test_all_second_lines_of_two_wires(self):
        for word in sorted(all_words(2)):
            for other in sorted(all_words(2)):
                right = word[1:] != "II" and other[1:] not in ("II", word[1:]) and not words_cross(word, other)
                text = f"wires 2\nguard {word}\nguard {other}"
                if right:
                    self.assertEqual(Guard(text).words, (word, other))
                else:
                    self.check_text(text, 2 if word[1:] == "II" else 3)


class Guards(Checking):

    def test_equal(self):
        self.assertTrue(THREE == Guard(THREE.text))
        self.assertFalse(THREE != Guard(THREE.text))
        self.assertTrue(THREE != in_steps(THREE))
        for value in junk() + [THREE.text, THREE.words]:
            self.assertFalse(THREE == value)
            self.assertTrue(THREE != value)

    def test_in_and_group(self):
        for turn in range(60):
            n = 1 + turn % 4
            guard = random_guard(random.Random(turn), n, turn % (n + 1))
            wanted = oracle_guards.group(guard)
            self.assertEqual(group(guard), tuple(sorted(wanted)))
            for word in sorted(all_words(n)):
                self.assertIs(word in guard, word in wanted)
            for value in junk():
                self.assertIs(value in guard, isinstance(value, str) and value in wanted)
        self.assertEqual(group(Guard("wires 6")), ("+IIIIII",))
        self.assertIn("+YYI", Guard("wires 3\nguard -XXI\nguard +ZZI"))
        self.assertIn("-YYI", Guard("wires 3\nguard +XXI\nguard +ZZI"))

    def test_with_word_by_all_words(self):
        for guard in (THREE, Guard("wires 2"), Guard("wires 2\nguard -XX\nguard +ZZ"), Guard("wires 3\nguard -XYZ")):
            before = guard.text
            for word in sorted(all_words(guard.wires)):
                name = oracle_guards.kind_name(guard, word)
                if name == "kept":
                    self.assertEqual(guard.with_word(word).text, guard.text + "\nguard " + word)
                    continue
                with self.assertRaises(Crosses if name == "seen" else Made) as caught:
                    guard.with_word(word)
                wanted = oracle_guards.signs(guard, word[1:])
                if name != "seen":
                    wanted = [numbers for numbers in some_of(guard.words)
                              if oracle.by_letters([guard.words[k][1:] for k in numbers], guard.wires) == word[1:]][0]
                self.assertEqual(caught.exception.value, wanted)
            self.assertEqual(guard.text, before)

    def test_wrong_words(self):
        for value in junk() + ["+ZZ", "ZZI", "+ZZII", "+zzi", ["+", "Z"]]:
            if not is_word(value, 3):
                self.check_refused(THREE.with_word, ("+ZII",), {0: value}, BadWord)
        self.assertEqual(THREE.with_word(word="+ZII"), THREE.with_word("+ZII"))
        self.assertEqual(THREE.without(number=1), THREE.without(1))

    def test_without(self):
        self.assertEqual(THREE.without(0).text, "wires 3\nguard +IZZ")
        self.assertEqual(THREE.without(1).text, "wires 3\nguard +ZZI")
        self.assertEqual(THREE.without(0).without(0).text, "wires 3")
        for value in junk() + [-1, -2, 2, "0", True, False, (0,)]:
            if not (is_int(value) and 0 <= value < 2):
                self.check_refused(THREE.without, (0,), {0: value}, NoWord)
        with self.assertRaises(NoWord):
            Guard("wires 1").without(0)

    def test_same_group(self):
        for turn in range(80):
            chance = random.Random(turn)
            n = 1 + turn % 3
            guard = random_guard(chance, n, turn % (n + 1))
            others = [multiplied(chance, guard), opposite(chance, multiplied(chance, guard)), in_steps(guard),
                      random_guard(chance, n, chance.randrange(0, n + 1)), Guard(f"wires {n}"), guard]
            others += [guard.without(0)] if guard.words else []
            for other in others:
                extra = [(name, word) for name in ("signs", "other") for word in sorted(all_words(n))[::5]]
                self.check_told(same_group, shows_same_group, right_same_group, (guard, other), extra, most=12)

    def test_same_group_by_all_of_two_wires(self):
        every = all_guards(2)[::9]
        words = sorted(all_words(2))
        for guard in every:
            for other in every:
                signs = [word for word in words if shows_same_group(guard, other, ("signs", word))]
                unlike = [word for word in words if shows_same_group(guard, other, ("other", word))]
                kinds = [shows_same_group(guard, other, ("same",)), signs != [], unlike != []]
                self.assertEqual(kinds.count(True), 1)
                mine, its = oracle_guards.group(guard), oracle_guards.group(other)
                self.assertEqual(kinds[0], mine == its)
                self.assertEqual(kinds[2], {word[1:] for word in mine} != {word[1:] for word in its})

    def test_in_steps(self):
        for turn in range(120):
            chance = random.Random(turn)
            n = 1 + turn % 6
            guard = random_guard(chance, n, turn % (n + 1))
            told = in_steps(guard)
            self.assertEqual(oracle_guards.group(told), oracle_guards.group(guard))
            self.assertTrue(stands_in_steps(told.words), told.words)
            self.assertEqual(told, in_steps(multiplied(chance, guard)))
            self.assertEqual(told.wires, n)
            other = opposite(chance, guard)
            self.assertEqual(in_steps(other) == told, oracle_guards.group(other) == oracle_guards.group(guard))

    def test_in_steps_by_all_of_two_wires(self):
        texts = {}
        for guard in all_guards(2):
            texts.setdefault(oracle_guards.group(guard), set()).add(in_steps(guard).text)
        self.assertTrue(all(len(some) == 1 for some in texts.values()))
        self.assertEqual(len(texts), 1 + 30 + 60)

    def test_led_guard(self):
        chance = random.Random(5)
        for turn in range(60):
            n = 1 + turn % 6
            guard, some = random_guard(chance, n, turn % (n + 1)), random_gates(chance, n, turn)
            told = led_guard(guard, some)
            self.assertEqual(told.words, tuple(oracle.led(word, some) for word in guard.words))
            self.assertEqual(told.wires, n)
        self.assertEqual(led_guard(THREE, ()), THREE)
        self.assertEqual(len(led_guard(THREE, ("h 0",) * 400)), 2)

    def test_exchanged(self):
        guard = Guard("wires 3\nguard -XYZ\nguard +ZZI")
        for wires in permutations(range(3)):
            told = exchanged(guard, wires)
            self.assertEqual(told.words, tuple(word[0] + "".join(word[1 + k] for k in wires) for word in guard.words))
        self.assertEqual(exchanged(guard, (1, 2, 0)).words, ("-YZX", "+ZIZ"))
        for value in ((0, 1), (0, 1, 1), (0, 1, 3), [0, 1, 2], (0, True, 2), (False, 1, 2), (0, 1, 2, 0), "012",
                      (0, 1, None), (0, 1, -1), (0, 1, "2"), (0, 1, (2,))):
            self.check_refused(exchanged, (guard, (0, 1, 2)), {1: value}, BadWires)

    def test_side_by_side(self):
        chance = random.Random(6)
        for turn in range(40):
            n, m = 1 + turn % 5, 1 + turn % 3
            guard, other = random_guard(chance, n, turn % (n + 1)), random_guard(chance, m, turn % (m + 1))
            if n + m > 6:
                with self.assertRaises(Wide) as caught:
                    side_by_side(guard, other)
                self.assertEqual((caught.exception.value, type(caught.exception.value)), (6, int))
                continue
            told = side_by_side(guard, other)
            self.assertEqual(told.wires, n + m)
            self.assertEqual(told.words, tuple(word + "I" * m for word in guard.words)
                             + tuple(word[0] + "I" * n + word[1:] for word in other.words))
        self.assertEqual(side_by_side(THREE, THREE).wires, 6)

    def test_values_of_all_kinds(self):
        for other in (THREE, in_steps(THREE), Guard("wires 3\nguard -ZZI\nguard +IZZ"), Guard("wires 3\nguard +XII")):
            self.check_junk(shows_same_group, right_same_group, (THREE, other))

    def test_wrong_arguments(self):
        other = (OtherWires, lambda value: isinstance(value, Guard) and value.wires == 3)
        self.check_wrong(same_group, (THREE, THREE), [None, other])
        self.check_wrong(shows_same_group, (THREE, THREE, None), [None, other, None])
        self.check_refused(same_group, (THREE, THREE), {1: FOUR}, OtherWires)
        self.check_wrong(led_guard, (THREE, ()), [None, (BadGates, lambda value: is_gates(value, 3))])
        self.check_wrong(exchanged, (THREE, (0, 2, 1)), [None, (BadWires, is_all_wires(3))])
        self.check_wrong(side_by_side, (THREE, THREE), [None, (BadOther, lambda value: isinstance(value, Guard))])
        self.check_refused(side_by_side, (FOUR, THREE), {1: THING}, BadOther)

    def test_equal_guards_tell_the_same(self):
        other = Guard(FOUR.text)
        for function in (group, in_steps):
            self.assertEqual(function(FOUR), function(other))
        self.assertEqual(same_group(FOUR, other), ("same",))
        self.assertEqual((FOUR.text, FOUR.words), (other.text, other.words))

    def test_names(self):
        for function, names, args in (
                (group, "guard", (THREE,)), (same_group, "guard other", (THREE, THREE)),
                (shows_same_group, "guard other value", (THREE, THREE, ("same",))), (in_steps, "guard", (THREE,)),
                (led_guard, "guard gates", (THREE, ("h 0",))), (exchanged, "guard wires", (THREE, (1, 0, 2))),
                (side_by_side, "guard other", (THREE, THREE))):
            self.check_names(function, names, args)
            self.assertEqual(function.__module__, "guardedwires.guards")
            self.assertIs(getattr(guards, function.__name__), function)
        for name in ("with_word", "without", "__len__", "__contains__", "__eq__", "__init__"):
            self.assertIn(name, vars(Guard))

    def test_random_words_are_in_or_not(self):
        chance = random.Random(7)
        guard = random_guard(chance, 6, 6)
        wanted = oracle_guards.group(guard)
        self.assertEqual(len(wanted), 64)
        for word in [random_word(chance, 6) for _ in range(200)] + sorted(wanted):
            self.assertIs(word in guard, word in wanted)


if __name__ == "__main__":
    unittest.main()
