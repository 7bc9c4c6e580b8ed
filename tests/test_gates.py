"""Section 5: gates."""

import random
import unittest

from guardedwires import gates as module
from guardedwires.errors import BadGates, BadNumber, BadTable, BadWord
from guardedwires.gates import back, gates_of, led, same_gates, shows_gates_of, shows_same_gates, table
from tests.checking import Checking, random_gates, random_word
from tests import oracle
from tests.oracle import (all_gates, all_words, is_gates, is_int, is_table, is_word, right_gates_of, right_same_gates,
                          times, words_cross)


def is_any_word(value):
    return any(is_word(value, n) for n in range(1, 7))


def is_wires(value):
    return is_int(value) and 1 <= value <= 6


class Gates(Checking):

    def test_each_gate_leads_each_word_of_three_wires(self):
        for gate in sorted(all_gates(3)):
            for word in sorted(all_words(3)):
                came = led(word, (gate,))
                self.assertEqual(came, oracle.led(word, (gate,)))
                self.assertEqual(back(came, (gate,)), word)

    def test_products_go_to_products(self):
        chance = random.Random(1)
        for turn in range(300):
            n = 1 + turn % 6
            one, other = random_word(chance, n), random_word(chance, n)
            some = random_gates(chance, n, turn % 20)
            quarters, letters = times([one, other], n)
            more, came = times([led(one, some), led(other, some)], n)
            straight = led("+" + letters, some)
            self.assertEqual((more, came), ((quarters + 2 * (straight[0] == "-")) % 4, straight[1:]))
            self.assertEqual(words_cross(led(one, some), led(other, some)), words_cross(one, other))

    def test_back_undoes_led(self):
        chance = random.Random(2)
        for turn in range(200):
            n = 1 + turn % 6
            word, some = random_word(chance, n), random_gates(chance, n, turn % 40)
            self.assertEqual(led(back(word, some), some), word)
            self.assertEqual(back(led(word, some), some), word)

    def test_none_and_400_gates(self):
        chance = random.Random(3)
        most = random_gates(chance, 6, 400)
        word = random_word(chance, 6)
        self.assertEqual(led(word, ()), word)
        self.assertEqual(back(led(word, most), most), word)
        self.assertEqual(led(word, most), oracle.led(word, most))
        self.assertEqual(table(6, most), oracle.table(6, most))
        for function, args in ((led, (word,)), (back, (word,)), (table, (6,))):
            more = most + ("h 0",)
            with self.assertRaises(BadGates) as caught:
                function(*args, more)
            self.assertIs(caught.exception.value, more)

    def test_tables(self):
        chance = random.Random(4)
        for turn in range(120):
            n = 1 + turn % 6
            some = random_gates(chance, n, turn)
            told = table(n, some)
            self.assertEqual(told, oracle.table(n, some))
            self.assertTrue(is_table(told))

    def test_gates_of_all_tables_of_one_wire(self):
        words = sorted(all_words(1))
        tables = [((x, z),) for x in words for z in words if words_cross(x, z)]
        self.assertEqual(len(tables), 24)
        for rows in tables:
            self.check_told(gates_of, shows_gates_of, right_gates_of, (rows,), most=60)

    def test_gates_of_tables(self):
        chance = random.Random(5)
        for turn in range(60):
            n = 1 + turn % 6
            some = random_gates(chance, n, 200)
            rows = oracle.table(n, some)
            self.check_told(gates_of, shows_gates_of, right_gates_of, (rows,), [some], most=25)
            self.assertIs(shows_gates_of(rows, some), True)

    def test_gates_of_the_greatest_tables(self):
        chance = random.Random(6)
        for _ in range(60):
            rows = table(6, random_gates(chance, 6, 400))
            told = gates_of(rows)
            self.assertLessEqual(len(told), 400)
            self.assertIs(shows_gates_of(rows, told), True)
            self.assertIs(shows_gates_of(rows, told + ("x 5",)), False)

    def test_same_gates(self):
        chance = random.Random(7)
        for turn in range(60):
            n = 1 + turn % 4
            some = random_gates(chance, n, turn % 7)
            others = [some + (f"s {n - 1}",) * k for k in range(5)] + [random_gates(chance, n, 3), gates_of(table(n, some))]
            for other in others:
                self.check_told(same_gates, shows_same_gates, right_same_gates, (n, some, other), most=25)

    def test_just_one_of_both_by_all_words(self):
        for n in (1, 2):
            every = [()] + [(gate,) for gate in sorted(all_gates(n))]
            for one in every:
                for other in every:
                    shown = [word for word in sorted(all_words(n)) if shows_same_gates(n, one, other, ("apart", word))]
                    self.assertEqual(shown == [], shows_same_gates(n, one, other, ("same",)))
                    unlike = [word for word in sorted(all_words(n)) if oracle.led(word, one) != oracle.led(word, other)]
                    self.assertEqual(shown, unlike)

    def test_signs_alone_part_gates(self):
        self.assertEqual(same_gates(1, ("s 0", "s 0"), ("z 0",)), ("same",))
        self.assertEqual(same_gates(1, ("s 0",) * 4, ()), ("same",))
        self.assertEqual(same_gates(1, ("h 0",) * 2, ()), ("same",))
        self.assertIs(shows_same_gates(1, ("x 0",), (), ("apart", "-Z")), True)
        self.assertIs(shows_same_gates(1, ("x 0",), (), ("apart", "+X")), False)
        self.assertIs(shows_same_gates(1, ("x 0",), (), ("same",)), False)

    def test_values_of_all_kinds(self):
        self.check_junk(shows_same_gates, right_same_gates, (1, ("x 0",), ()))
        self.check_junk(shows_same_gates, right_same_gates, (2, (), ()))
        self.check_junk(shows_gates_of, right_gates_of, ((("+Z", "+X"),),))
        self.check_junk(shows_gates_of, right_gates_of, ((("+XI", "+ZI"), ("+IX", "+IZ")),))

    def test_wrong_arguments(self):
        of_two = (BadGates, lambda value: is_gates(value, 2))
        some = ("h 0", "cx 0 1")
        for function in (led, back):
            self.check_wrong(function, ("+XZ", some), [(BadWord, is_any_word), of_two])
        self.check_wrong(table, (2, some), [(BadNumber, is_wires), of_two])
        self.check_wrong(same_gates, (2, some, ()), [(BadNumber, is_wires), of_two, of_two])
        self.check_wrong(shows_same_gates, (2, some, (), 0), [(BadNumber, is_wires), of_two, of_two, None])
        rows = (("+XX", "+ZI"), ("+IX", "+ZZ"))
        self.check_wrong(gates_of, (rows,), [(BadTable, is_table)])
        self.check_wrong(shows_gates_of, (rows, ()), [(BadTable, is_table), None])

    def test_gates_that_are_almost_right(self):
        for gate in ("h 2", "h", "h 0 1", "cx 0", "cx 0 0", "cx 0 2", "cx 2 0", "H 0", "h  0", "h 0 ", " h 0", "h 00",
                     "h -1", "h +0", "h 0\n", "cx 0 1 0", "swap 1 1", "swap 0", "cx 0  1", "y 0", "cz", "", " ", "h,0",
                     0, None, True, ("h 0",), ["h 0"], b"h 0"):
            for value in ((gate,), ("h 0", gate), (gate, "nothing")):
                with self.assertRaises(BadGates) as caught:
                    led("+XX", value)
                self.assertIs(caught.exception.value, value)
        for value in (["h 0"], "h 0", None, {"h 0": 1}):
            with self.assertRaises(BadGates):
                table(2, value)

    def test_tables_that_are_almost_right(self):
        good = (("+XX", "+ZI"), ("+IX", "+ZZ"))
        self.assertEqual(table(2, gates_of(good)), good)
        for value in (good[:1], good[::-1] + good, list(good), (list(good[0]), good[1]), (good[0], good[0]),
                      (("+XX", "+ZI"), ("+IX", "+IX")), (("+XX", "+ZI"), ("+IX", "+IZ")), (good[0], good[1] + ("+XX",)),
                      ((), ()), (), (("+X", "+X"),), (("+X", "+I"),), (("X", "Z"),), ("+XX", "+ZI", "+IX", "+ZZ"),
                      (good[0], ("+IX", "ZZ")), (good[0], ("+IX", None)), (("+XI", "+ZI"), ("+XX", "+IZ"))):
            with self.assertRaises(BadTable) as caught:
                gates_of(value)
            self.assertIs(caught.exception.value, value)

    def test_names(self):
        self.check_names(led, "word gates", ("+X", ("h 0",)))
        self.check_names(back, "word gates", ("+X", ("h 0",)))
        self.check_names(table, "wires gates", (1, ("h 0",)))
        self.check_names(same_gates, "wires gates other", (1, ("h 0",), ()))
        self.check_names(shows_same_gates, "wires gates other value", (1, ("h 0",), (), ("apart", "+X")))
        self.check_names(gates_of, "rows", ((("+Z", "+X"),),))
        self.check_names(shows_gates_of, "rows value", ((("+Z", "+X"),), ("h 0",)))
        for name in ("led", "back", "table", "same_gates", "shows_same_gates", "gates_of", "shows_gates_of"):
            self.assertEqual(getattr(module, name).__module__, "guardedwires.gates")


if __name__ == "__main__":
    unittest.main()
