"""Section 6: spans."""

import random
import unittest
from itertools import product as rows_of

from guardedwires import spans
from guardedwires.errors import BadBase, BadLetters, BadMakers, BadNumber
from guardedwires.spans import (firsts, made, parted, rank, shows_made, shows_parted, shows_span_gates, shows_within,
                                shows_word_gates, sizes, span_gates, within, word_gates)
from tests import oracle
from tests.checking import Checking, junk, random_base, random_gates, random_letters, random_makers, some_near
from tests.oracle import (all_letters, all_words, by_letters, is_independent, is_int, is_letters, is_tuple, is_word,
                          right_made, right_parted, right_span_gates, right_within, right_word_gates, some_of, span,
                          words_cross)

SQUARE = ("XXII", "IIXX", "ZIZI", "IZIZ")


def is_wires(value):
    return is_int(value) and 1 <= value <= 6


def makers_of(n):
    return lambda value: is_tuple(value) and len(value) <= 12 and all(is_letters(part, n) for part in value)


def base_of(n, many=None):
    """Whether it is a tuple of words whose letters are independent, of so many ones."""
    def is_base(value):
        if not is_tuple(value, many) or len(value) > 12 or not all(is_word(word, n) for word in value):
            return False
        return is_independent([word[1:] for word in value], n)
    return is_base


def some_makers(chance, turn):
    """(wires, makers): of one to four wires, with idle letters and the same ones twice among them."""
    n = 1 + turn % 4
    makers = random_makers(chance, n, chance.randrange(0, 6))
    if turn % 3 == 0:
        makers += ("I" * n,) + makers[:1]
    return n, tuple(chance.sample(makers, len(makers)))


class Spans(Checking):

    def test_rank_and_firsts(self):
        chance = random.Random(1)
        for turn in range(200):
            n, makers = some_makers(chance, turn)
            self.assertEqual(rank(n, makers), oracle.rank(n, makers))
            wanted = tuple(k for k, letters in enumerate(makers) if letters not in span(n, makers[:k]))
            self.assertEqual(firsts(n, makers), wanted)
            self.assertEqual(sizes(n, makers), oracle.sizes(n, makers))

    def test_edges(self):
        self.assertEqual((rank(6, ()), firsts(6, ()), sizes(6, ()), parted(6, ())), (0, (), (0, 0), ((), ())))
        idle = ("IIIIII",) * 12
        self.assertEqual((rank(6, idle), firsts(6, idle), sizes(6, idle), parted(6, idle)), (0, (), (0, 0), ((), ())))
        self.assertEqual((rank(1, ("X", "X")), firsts(1, ("X", "X")), sizes(1, ("X", "X"))), (1, (0,), (1, 0)))
        self.assertEqual((rank(1, ("X", "Y", "Z")), firsts(1, ("I", "Y", "Z", "X"))), (2, (1, 2)))
        self.assertEqual(made(2, (), "II"), ("made", ()))
        self.assertIs(shows_made(2, ("XX",), "II", ("made", ())), True)
        self.assertEqual(within(2, (), ()), ("within",))
        self.assertEqual(within(2, ("II",), ()), ("within",))

    def test_made_by_all_of_two_wires(self):
        chance = random.Random(2)
        every = sorted(all_letters(2))
        for turn in range(30):
            makers = random_makers(chance, 2, turn % 5)
            for letters in every:
                told = made(2, makers, letters)
                self.assertTrue(right_made(2, makers, letters, told))
                products = [numbers for numbers in some_of(makers) if shows_made(2, makers, letters, ("made", numbers))]
                bars = [other for other in every if shows_made(2, makers, letters, ("bar", other))]
                self.assertEqual(products == [], bars != [])
                self.assertEqual(told[1] in (products or bars), True)
                self.assertEqual(products, [numbers for numbers in some_of(makers)
                                            if by_letters([makers[k] for k in numbers], 2) == letters])

    def test_made(self):
        chance = random.Random(3)
        for turn in range(60):
            n, makers = some_makers(chance, turn)
            letters = chance.choice(sorted(span(n, makers))) if turn % 2 else random_letters(chance, n)
            others = [("made", numbers) for numbers in some_of(makers)[:20]]
            others += [("bar", random_letters(chance, n)) for _ in range(5)]
            self.check_told(made, shows_made, right_made, (n, makers, letters), others, most=20)

    def test_within(self):
        chance = random.Random(4)
        for turn in range(100):
            n, makers = some_makers(chance, turn)
            others = random_makers(chance, n, chance.randrange(0, 7))
            if turn % 2:
                makers = tuple(chance.sample(sorted(span(n, others)), min(3, len(span(n, others)))))
            more = [("apart", k, random_letters(chance, n)) for k in range(3)]
            self.check_told(within, shows_within, right_within, (n, makers, others), more, most=40)

    def test_within_or_apart_by_all_of_two_wires(self):
        chance = random.Random(5)
        every = sorted(all_letters(2))
        for turn in range(150):
            makers, others = random_makers(chance, 2, turn % 4), random_makers(chance, 2, turn % 3 + 1)
            shown = [(k, letters) for k in range(len(makers)) for letters in every
                     if shows_within(2, makers, others, ("apart", k, letters))]
            self.assertEqual(shown == [], shows_within(2, makers, others, ("within",)))
            self.assertEqual(shown, [(k, letters) for k in range(len(makers)) for letters in every
                                     if right_within(2, makers, others, ("apart", k, letters))])

    def test_parted(self):
        chance = random.Random(6)
        for turn in range(60):
            n, makers = some_makers(chance, turn)
            told = self.check_told(parted, shows_parted, right_parted, (n, makers), most=150)
            self.assertEqual((len(told[0]), len(told[1])), oracle.sizes(n, makers))

    def test_other_partings(self):
        self.assertIs(shows_parted(2, ("XI", "ZI", "IX"), (("IX",), (("XI", "ZI"),))), True)
        self.assertIs(shows_parted(2, ("XI", "ZI", "IX"), (("IX",), (("ZX", "YX"),))), True)
        self.assertIs(shows_parted(2, ("XI", "ZI", "IX"), (("XI",), (("XI", "ZI"),))), False)
        self.assertIs(shows_parted(2, ("XI", "ZI", "IX"), (("IX",), (("XI", "XX"),))), False)
        self.assertIs(shows_parted(2, ("XI", "ZI", "IX"), (("IX", "IX"), (("XI", "ZI"),))), False)
        self.assertIs(shows_parted(2, ("XX", "ZI"), ((), (("XX", "ZI"),))), True)
        self.assertIs(shows_parted(2, ("XX", "ZI"), ((), (("YX", "XX"),))), True)
        self.assertIs(shows_parted(2, ("XX", "ZI"), ((), (("XI", "ZI"),))), False)
        self.assertIs(shows_parted(2, ("XX", "ZZ"), (("YY", "ZZ"), ())), True)
        self.assertIs(shows_parted(2, ("XX", "ZZ"), (("YY",), ())), False)
        both = ("XI", "ZI", "IX", "IZ")
        self.assertIs(shows_parted(2, both, ((), (("XX", "ZI"), ("IX", "ZZ")))), True)
        self.assertIs(shows_parted(2, both, ((), (("XX", "ZI"), ("IX", "IZ")))), False)

    def test_span_gates(self):
        chance = random.Random(7)
        for turn in range(60):
            n, makers = some_makers(chance, turn)
            others = random_makers(chance, n, chance.randrange(0, 6))
            if turn % 2:
                some = random_gates(chance, n, 12)
                others = tuple(oracle.led("+" + letters, some)[1:] for letters in makers) + makers[:0]
                self.assertIs(shows_span_gates(n, makers, others, ("gates", some)), True)
            self.check_told(span_gates, shows_span_gates, right_span_gates, (n, makers, others), [("gates", ())], most=20)

    def test_gates_or_sizes_by_all_of_one_wire(self):
        every = [makers for many in range(3) for makers in rows_of("IXYZ", repeat=many)]
        short = [gates for many in range(4) for gates in rows_of(("h 0", "s 0"), repeat=many)]
        numbers = [(a, b) for a in range(3) for b in range(3)]
        for makers in every:
            for others in every:
                by_gates = any([shows_span_gates(1, makers, others, ("gates", gates)) for gates in short])
                by_sizes = [(a, b) for a in numbers for b in numbers if shows_span_gates(1, makers, others, ("sizes", a, b))]
                self.assertEqual(by_gates, by_sizes == [])
                self.assertIn(by_sizes, ([], [(oracle.sizes(1, makers), oracle.sizes(1, others))]))

    def test_word_gates(self):
        chance = random.Random(8)
        for turn in range(80):
            n = 1 + turn % 4
            words = random_base(chance, n, chance.randrange(0, 2 * n + 1))
            others = random_base(chance, n, len(words))
            extra = [("crossing", a, b) for a in range(3) for b in range(3)]
            if turn % 2:
                some = random_gates(chance, n, 15)
                others = tuple(oracle.led(word, some) for word in words)
                self.assertIs(shows_word_gates(n, words, others, ("gates", some)), True)
            self.check_told(word_gates, shows_word_gates, right_word_gates, (n, words, others), extra, most=20)

    def test_gates_or_crossing_by_all_of_one_wire(self):
        every = [words for many in range(3) for words in rows_of(sorted(all_words(1)), repeat=many)
                 if is_independent([word[1:] for word in words], 1)]
        for words in every:
            for others in every:
                if len(words) == len(others):
                    self.assertEqual(word_gates(1, words, others)[0], "gates")
                    self.assertIs(shows_word_gates(1, words, others, ("crossing", 0, 1)), False)

    def test_gates_or_crossing_of_two_wires(self):
        chance = random.Random(9)
        for turn in range(200):
            many = turn % 5
            words, others = random_base(chance, 2, many), random_base(chance, 2, many)
            told = word_gates(2, words, others)
            self.assertTrue(right_word_gates(2, words, others, told))
            crossing = [(a, b) for a in range(many) for b in range(many)
                        if shows_word_gates(2, words, others, ("crossing", a, b))]
            self.assertEqual(crossing != [], told[0] == "crossing")
            self.assertEqual(crossing, [(a, b) for a in range(many) for b in range(a + 1, many) if
                                        words_cross(words[a], words[b]) != words_cross(others[a], others[b])])

    def test_signs_of_word_gates(self):
        self.assertIs(shows_word_gates(1, ("+X",), ("-Z",), ("gates", ("h 0",))), False)
        self.assertIs(shows_word_gates(1, ("+X",), ("+Z",), ("gates", ("h 0",))), True)
        told = word_gates(2, ("+XI", "+ZI", "-IX", "+IZ"), ("-XI", "-ZI", "+IX", "-IZ"))
        self.assertEqual(told[0], "gates")
        self.assertEqual([oracle.led(word, told[1]) for word in ("+XI", "+ZI", "-IX", "+IZ")],
                         ["-XI", "-ZI", "+IX", "-IZ"])

    def test_the_greatest(self):
        chance = random.Random(10)
        for _ in range(25):
            makers, others = random_makers(chance, 6, 12), random_makers(chance, 6, 12)
            letters = random_letters(chance, 6)
            self.assertIs(shows_made(6, makers, letters, made(6, makers, letters)), True)
            self.assertIs(shows_within(6, makers, others, within(6, makers, others)), True)
            told = parted(6, makers)
            self.assertIs(shows_parted(6, makers, told), True)
            self.assertEqual((len(told[0]), len(told[1])), sizes(6, makers))
            self.assertIs(shows_span_gates(6, makers, others, span_gates(6, makers, others)), True)
            words = random_base(chance, 6, 12)
            its = tuple(oracle.led(word, random_gates(random.Random(1), 6, 100)) for word in words)
            told = word_gates(6, words, its)
            self.assertEqual(told[0], "gates")
            self.assertLessEqual(len(told[1]), 400)
            self.assertIs(shows_word_gates(6, words, its, told), True)
            self.assertIs(shows_word_gates(6, words, its, ("gates", told[1] + ("s 0",))), False)

    def test_values_of_all_kinds(self):
        for makers, letters in ((SQUARE, "XXXX"), (SQUARE, "XIII")):
            self.check_junk(shows_made, right_made, (4, makers, letters))
        for makers, others in ((("XX",), ("XX", "ZZ")), (("XX",), ("ZZ",)), ((), ())):
            self.check_junk(shows_within, right_within, (2, makers, others))
            self.check_junk(shows_span_gates, right_span_gates, (2, makers, others))
        for makers in ((), ("X",), ("X", "Z")):
            self.check_junk(shows_parted, right_parted, (1, makers))
        for words, others in ((("+X",), ("+X",)), (("+X", "+Z"), ("-X", "+Z")), ((), ())):
            self.check_junk(shows_word_gates, right_word_gates, (1, words, others))
        self.check_junk(shows_word_gates, right_word_gates, (2, ("+XI", "+ZI"), ("+XI", "+IX")))

    def test_wrong_arguments(self):
        wires, makers, base = (BadNumber, is_wires), (BadMakers, makers_of(2)), (BadBase, base_of(2))
        letters = (BadLetters, lambda value: is_letters(value, 2))
        for function in (rank, firsts, parted, sizes):
            self.check_wrong(function, (2, ("XX", "ZZ")), [wires, makers])
        self.check_wrong(shows_parted, (2, ("XX", "ZZ"), None), [wires, makers, None])
        self.check_wrong(made, (2, ("XX",), "ZZ"), [wires, makers, letters])
        self.check_wrong(shows_made, (2, ("XX",), "ZZ", None), [wires, makers, letters, None])
        for function in (within, span_gates):
            self.check_wrong(function, (2, ("XX",), ("ZZ",)), [wires, makers, makers])
        for function in (shows_within, shows_span_gates):
            self.check_wrong(function, (2, ("XX",), ("ZZ",), 0), [wires, makers, makers, None])

    def test_wrong_bases(self):
        wires, base = (BadNumber, is_wires), (BadBase, base_of(2))
        self.check_wrong(word_gates, (2, (), ()), [wires, None, (BadBase, base_of(2, 0))])
        two = (("+XX", "+ZZ"), ("+XI", "+IX"))
        pairs = (BadBase, base_of(2, 2))
        self.check_wrong(word_gates, (2,) + two, [wires, None, pairs])
        self.check_wrong(shows_word_gates, (2,) + two + (None,), [wires, None, pairs, None])
        for value in junk():
            if not base[1](value):
                self.check_refused(word_gates, (2,) + two, {1: value}, BadBase)
                self.check_refused(word_gates, (2,) + two, {1: value, 2: ["+XX"]}, BadBase)
                self.check_refused(shows_word_gates, (2,) + two + (None,), {1: value, 2: value}, BadBase)
        for value in (("+XX",), ("+XX", "-XX"), ("+XX", "+II"), ("+XX", "+ZZ", "+YY"), ("+XX", "+ZZ", "+XI"),
                      ("+XX", "ZZ"), ["+XX", "+ZZ"]):
            self.check_refused(word_gates, (2,) + two, {2: value}, BadBase)
        self.check_refused(word_gates, (1, ("+X",), ("+X",)), {1: ("+X",) * 13}, BadBase)

    def test_makers_that_are_almost_right(self):
        for value in (("XX", "X"), ("XX", "+XX"), ["XX"], ("XX",) * 13, ("xx",), "XX", ("XX", None), ("XX", ("XX",)),
                      {"XX": 1}, ("XW",), ("XX ",)):
            self.check_refused(rank, (2, ()), {1: value}, BadMakers)
            self.check_refused(within, (2, (), ()), {2: value}, BadMakers)
        self.assertEqual(rank(2, ("XX",) * 12), 1)
        for value in (0, 7, True, "2", None, (2,), -1):
            self.check_refused(rank, (2, ()), {0: value}, BadNumber)

    def test_names(self):
        for function, names, args in (
                (rank, "wires makers", (1, ("X",))), (firsts, "wires makers", (1, ("X",))),
                (made, "wires makers letters", (1, ("X",), "Z")),
                (shows_made, "wires makers letters value", (1, ("X",), "Z", 0)),
                (within, "wires makers others", (1, ("X",), ("Z",))),
                (shows_within, "wires makers others value", (1, ("X",), ("Z",), 0)),
                (parted, "wires makers", (1, ("X",))), (shows_parted, "wires makers value", (1, ("X",), 0)),
                (sizes, "wires makers", (1, ("X",))), (span_gates, "wires makers others", (1, ("X",), ("Z",))),
                (shows_span_gates, "wires makers others value", (1, ("X",), ("Z",), 0)),
                (word_gates, "wires words others", (1, ("+X",), ("+Z",))),
                (shows_word_gates, "wires words others value", (1, ("+X",), ("+Z",), 0))):
            self.check_names(function, names, args)
            self.assertEqual(function.__module__, "guardedwires.spans")
            self.assertIs(getattr(spans, function.__name__), function)

    def test_bools_are_no_numbers_here(self):
        self.assertIs(shows_made(1, ("I", "X"), "X", ("made", (1,))), True)
        self.assertIs(shows_made(1, ("I", "X"), "X", ("made", (True,))), False)
        self.assertIs(shows_span_gates(2, ("XI", "ZI"), ("XX", "ZZ"), ("sizes", (0, 1), (2, 0))), True)
        self.assertIs(shows_span_gates(2, ("XI", "ZI"), ("XX", "ZZ"), ("sizes", (False, True), (2, 0))), False)
        self.assertIs(shows_span_gates(2, ("XI", "ZI"), ("XX", "ZZ"), ("sizes", (2, 0), (0, 1))), False)
        self.assertIs(shows_word_gates(2, ("+XI", "+ZI"), ("+XI", "-IZ"), ("crossing", False, True)), False)

    def test_near_values_of_the_square(self):
        value = parted(4, SQUARE)
        self.check_shows(shows_parted, right_parted, (4, SQUARE), [value] + some_near(value, 150))


if __name__ == "__main__":
    unittest.main()
