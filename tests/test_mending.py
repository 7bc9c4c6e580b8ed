"""Section 13: mending."""

import random
from itertools import combinations, product

from guardedwires import mending
from guardedwires.errors import BadFaults, BadLetters, BadNumber, BadTable, BadWeights
from guardedwires.guards import Guard, exchanged
from guardedwires.mending import (answered, best_table, mended, most_mended, shows_best_table, shows_mended,
                                  shows_most_mended, shows_two_faults, two_faults)
from tests import oracle_looks
from tests.checking import (Checking, all_guards, junk, multiplied, near, opposite, random_guard, random_letters,
                            some_guard)
from tests.oracle import all_letters, is_int, is_letters, is_tuple, weight
from tests.oracle_guards import signs
from tests.oracle_looks import (is_faults, is_table, right_best_table, right_mended, right_most_mended,
                                right_two_faults)

THREE = Guard("wires 3\nguard +ZZI\nguard +IZZ")
FIVE = Guard("wires 5\nguard +XZZXI\nguard +IXZZX\nguard +XIXZZ\nguard +ZXIXZ")
FAULTS = ("III", "IIX", "IXI", "XII")


def some_faults(chance, n):
    every = sorted(all_letters(n))
    return tuple(sorted(chance.sample(every, chance.randrange(1, min(len(every), 9)))))


def right_weights(faults):
    return lambda value: is_tuple(value, len(faults)) and all(is_int(one) and 0 <= one <= 999 for one in value)


class Mending(Checking):

    def test_mended(self):
        names = []
        for turn in range(120):
            guard = some_guard(turn)
            chance = random.Random(turn)
            faults = some_faults(chance, guard.wires)
            others = [("spoils", chance.choice(faults), chance.choice(faults)) for _ in range(6)]
            others.append(("table", tuple(sorted({signs(guard, one): (signs(guard, one), one) for one in faults}.values()))))
            told = self.check_told(mended, shows_mended, right_mended, (guard, faults), others, most=30)
            names.append(told[0])
        self.assertGreater(min(names.count("table"), names.count("spoils")), 20)

    def test_a_table_or_two_that_spoil_it(self):
        for guard in all_guards(1) + all_guards(2)[::9]:
            every = sorted(all_letters(guard.wires))
            for many in (1, 2, 3):
                for faults in list(combinations(every, many))[::11]:
                    spoiling = [pair for pair in product(every, repeat=2)
                                if shows_mended(guard, faults, ("spoils",) + pair)]
                    self.assertEqual(mended(guard, faults)[0], "spoils" if spoiling else "table")
                    self.assertEqual(spoiling, [pair for pair in product(every, repeat=2)
                                                if right_mended(guard, faults, ("spoils",) + pair)])

    def test_all_answers(self):
        for letters in sorted(all_letters(3)):
            for its in ((), (0,), (1,), (0, 1)):
                table = ("table", ((its, letters),))
                self.assertIs(shows_mended(THREE, ("XII",), table), letters in ("XII", "YZI", "XZZ", "YIZ") and its == (0,))

    def test_tables(self):
        told = mended(THREE, FAULTS)
        self.assertEqual(told, ("table", (((), "III"), ((0,), "XII"), ((0, 1), "IXI"), ((1,), "IIX"))))
        rows = told[1]
        for table in (rows[1:], rows + (rows[0],), rows[::-1], list(rows), rows[:1] + rows[:1] + rows[1:],
                      tuple(list(row) for row in rows), ((False, "III"),) + rows[1:], (((), "+III"),) + rows[1:],
                      rows[:3] + (((True,), "IIX"),), rows[:3] + (([1], "IIX"),), rows[:3] + (((1,), "IIY"),),
                      rows[:3] + (((1,), "IXX"),), rows[:3] + (((1,), "IIX", 0),)):
            self.assertIs(shows_mended(THREE, FAULTS, ("table", table)), False, table)
        self.assertIs(shows_mended(THREE, FAULTS, ("table", rows[:3] + (((1,), "ZZX"),))), True)
        self.assertIs(shows_mended(THREE, FAULTS[:3], ("table", rows)), False)
        self.assertIs(shows_mended(THREE, ("III", "ZII"), ("spoils", "ZII", "III")), False)
        self.assertIs(shows_mended(THREE, ("III", "ZII"), ("spoils", "III", "IZI")), False)

    def test_forty_faults(self):
        every = sorted(letters for letters in all_letters(5) if weight(letters) <= 2)
        self.assertEqual(mended(FIVE, tuple(sorted(one for one in every if weight(one) <= 1)))[0], "table")
        faults = tuple(every[:40])
        self.assertIs(shows_mended(FIVE, faults, mended(FIVE, faults)), True)
        self.check_refused(mended, (FIVE, faults), {1: tuple(every[:41])}, BadFaults)
        weights = tuple(range(960, 1000))
        told = best_table(FIVE, faults, weights)
        self.assertIs(shows_best_table(FIVE, faults, weights, told), True)
        self.assertIs(shows_best_table(FIVE, faults, weights, (told[0] - 1, told[1])), False)

    def test_best_table(self):
        for turn in range(80):
            guard = some_guard(turn, 3)
            chance = random.Random(turn)
            faults = some_faults(chance, guard.wires)
            weights = tuple(chance.choice((0, 1, 2, 3, 999)) for _ in faults)
            args = (guard, faults, weights)
            told = self.check_told(best_table, shows_best_table, right_best_table, args, most=40)
            others = [(told[0], tuple((its, random_letters(chance, guard.wires)) for its, _ in told[1])) for _ in range(9)]
            others += [(told[0], tuple((its, chance.choice(faults)) for its, _ in told[1])) for _ in range(9)]
            self.check_shows(shows_best_table, right_best_table, args, others)

    def test_edges_of_weights(self):
        self.assertEqual(best_table(THREE, ("III", "ZII"), (0, 999)), (999, (((), "ZII"),)))
        self.assertEqual(best_table(THREE, ("III", "ZII"), (1, 0)), (1, (((), "III"),)))
        self.assertEqual(best_table(THREE, ("III", "ZII", "ZZI"), (1, 2, 2))[0], 3)
        # Where all weights are nought, any answer with these signs is as good.
        self.assertIs(shows_best_table(THREE, ("III",), (0,), (0, (((), "XXX"),))), True)
        self.assertIs(shows_best_table(THREE, ("III",), (0,), (False, (((), "XXX"),))), False)
        self.assertIs(shows_best_table(THREE, ("III",), (1,), (1, (((), "XXX"),))), False)
        self.assertIs(shows_best_table(THREE, ("III",), (0,), (0, ())), False)

    def test_answered(self):
        for turn in range(60):
            guard = some_guard(turn)
            chance = random.Random(turn)
            rows = {signs(guard, one): one for one in some_faults(chance, guard.wires)}
            table = tuple(sorted(rows.items()))
            for letters in sorted(all_letters(guard.wires))[::3]:
                self.assertEqual(answered(guard, table, letters), oracle_looks.answered(guard, table, letters))
        self.assertEqual(answered(THREE, (), "III"), ("none",))
        self.assertEqual(answered(THREE, (((), "ZII"),), "ZII"), ("mended",))
        self.assertEqual(answered(THREE, (((), "ZII"),), "XXX"), ("turned", "YXX"))

    def test_wrong_tables(self):
        right = (((), "III"), ((0,), "XII"), ((0, 1), "IXI"))
        for value in junk() + list(near(right)):
            if not is_table(THREE, value):
                self.check_refused(answered, (THREE, right, "III"), {1: value}, BadTable)
                self.check_refused(answered, (THREE, right, "III"), {1: value, 2: "II"}, BadTable)
            else:
                answered(THREE, value, "III")

    def test_most_mended(self):
        for guard in all_guards(1) + all_guards(2)[::11] + [some_guard(turn, 3) for turn in range(30)]:
            told = self.check_told(most_mended, shows_most_mended, right_most_mended, (guard,), most=60)
            values = [(told[0], letters) for letters in sorted(all_letters(guard.wires))]
            self.check_shows(shows_most_mended, right_most_mended, (guard,), values)
        self.assertEqual(most_mended(FIVE)[0], 1)
        self.assertEqual(most_mended(Guard("wires 6"))[0], 0)
        self.assertEqual(most_mended(Guard("wires 2\nguard +XX\nguard +ZZ")), (2, None))
        self.assertIs(shows_most_mended(Guard("wires 1\nguard +X"), (1, None)), True)
        self.assertIs(shows_most_mended(Guard("wires 1\nguard +X"), (True, None)), False)
        self.assertIs(shows_most_mended(Guard("wires 1\nguard +X"), (0, None)), False)
        self.assertIs(shows_most_mended(THREE, (0, "IZI")), True)
        self.assertIs(shows_most_mended(THREE, (0, "+IZI")), False)
        self.assertIs(shows_most_mended(THREE, (False, "IZI")), False)
        self.assertIs(shows_most_mended(THREE, (0, None)), False)

    def test_two_faults(self):
        for guard in all_guards(1) + all_guards(2)[::11] + [some_guard(turn, 3) for turn in range(30)]:
            every = sorted(all_letters(guard.wires))
            for most in range(guard.wires + 1):
                self.check_told(two_faults, shows_two_faults, right_two_faults, (guard, most), most=60)
                pairs = list(product(every, repeat=2))
                self.check_shows(shows_two_faults, right_two_faults, (guard, most), pairs[::1 + len(pairs) // 200])
        self.assertIsNone(two_faults(FIVE, 1))
        self.assertIs(shows_two_faults(FIVE, 1, None), True)
        self.assertIs(shows_two_faults(FIVE, 2, None), False)
        self.assertIs(shows_two_faults(FIVE, 2, two_faults(FIVE, 2)), True)
        self.assertIs(shows_two_faults(FIVE, 1, two_faults(FIVE, 2)), False)

    def test_what_is_mended_and_what_spoils(self):
        for turn in range(24):
            guard = random_guard(random.Random(turn), 5, turn % 6)
            number, letters = most_mended(guard)
            for most in range(6):
                self.assertEqual(two_faults(guard, most) is None, most <= number)
                self.assertIs(shows_two_faults(guard, most, two_faults(guard, most)), True)
            if letters is not None:
                self.assertIn(weight(letters), (2 * number + 1, 2 * number + 2))

    def test_six_wires(self):
        for turn in range(14):
            chance = random.Random(turn)
            guard = random_guard(chance, 6, turn % 7)
            faults = some_faults(chance, 6)
            weights = tuple(chance.randrange(1000) for _ in faults)
            self.assertIs(shows_mended(guard, faults, mended(guard, faults)), True)
            self.assertIs(shows_best_table(guard, faults, weights, best_table(guard, faults, weights)), True)
            self.assertIs(shows_most_mended(guard, most_mended(guard)), True)
            for most in range(7):
                self.assertIs(shows_two_faults(guard, most, two_faults(guard, most)), True)

    def test_groups_alone_and_contraries(self):
        for turn in range(40):
            guard = some_guard(turn)
            chance = random.Random(turn)
            faults = some_faults(chance, guard.wires)
            weights = tuple(chance.randrange(9) for _ in faults)
            for other in (multiplied(chance, guard), opposite(chance, guard)):
                self.assertEqual(mended(guard, faults)[0], mended(other, faults)[0])
                self.assertEqual(best_table(guard, faults, weights)[0], best_table(other, faults, weights)[0])
                self.assertEqual(most_mended(guard)[0], most_mended(other)[0])
                for most in range(guard.wires + 1):
                    self.assertEqual(two_faults(guard, most) is None, two_faults(other, most) is None)
            contrary = opposite(chance, guard)
            self.assertEqual(mended(guard, faults), mended(contrary, faults))

    def test_wires_exchanged(self):
        for turn in range(40):
            guard = some_guard(turn)
            chance = random.Random(turn)
            wires = chance.sample(range(guard.wires), guard.wires)
            other = exchanged(guard, tuple(wires))
            faults = some_faults(chance, guard.wires)
            weights = {"".join(one[wire] for wire in wires): chance.randrange(9) for one in faults}
            its = tuple(sorted(weights))
            mine = tuple(weights["".join(one[wire] for wire in wires)] for one in faults)
            self.assertEqual(mended(guard, faults)[0], mended(other, its)[0])
            self.assertEqual(best_table(guard, faults, mine)[0], best_table(other, its, tuple(weights[one] for one in its))[0])
            self.assertEqual(most_mended(guard)[0], most_mended(other)[0])

    def test_values_of_all_kinds(self):
        for guard in (THREE, Guard("wires 2"), Guard("wires 2\nguard +XX\nguard +ZZ"), Guard("wires 1")):
            n = guard.wires
            self.check_junk(shows_most_mended, right_most_mended, (guard,))
            for most in (0, 1, n):
                self.check_junk(shows_two_faults, right_two_faults, (guard, most))
            for faults in (("I" * n,), ("I" * n, "X" * n), ("X" * n, "Z" * n)):
                self.check_junk(shows_mended, right_mended, (guard, faults))
                self.check_junk(shows_best_table, right_best_table, (guard, faults, (1,) * len(faults)))

    def test_wrong_arguments(self):
        two = Guard("wires 2\nguard +ZZ")
        faults = ("XX", "ZZ")
        right = (BadFaults, lambda value: is_faults(value, 2))
        weights = (BadWeights, right_weights(faults))
        number = (BadNumber, lambda value: is_int(value) and 0 <= value <= 2)
        self.check_wrong(mended, (two, faults), [None, right])
        self.check_wrong(shows_mended, (two, faults, 0), [None, right, None])
        self.check_wrong(best_table, (two, faults, (1, 2)), [None, right, weights])
        self.check_wrong(shows_best_table, (two, faults, (1, 2), 0), [None, right, weights, None])
        self.check_wrong(two_faults, (two, 1), [None, number])
        self.check_wrong(shows_two_faults, (two, 1, 0), [None, number, None])
        letters = (BadLetters, lambda value: is_letters(value, 2))
        table = (BadTable, lambda value: is_table(two, value))
        self.check_wrong(answered, (two, (), "XX"), [None, table, letters])
        for value in ((), ("ZZ", "XX"), ("XX", "XX"), ["XX"], ("XX", "+ZZ"), ("XX", "ZZZ"), "XX", ("xx",)):
            self.check_refused(mended, (two, faults), {1: value}, BadFaults)
        for value in ((1,), (1, 2, 3), (1, 1000), (1, -1), (1, True), [1, 2], (1, "2")):
            self.check_refused(best_table, (two, faults, (0, 999)), {2: value}, BadWeights)
        for value in (-1, 3, True, None, "1", (1,)):
            self.check_refused(two_faults, (two, 2), {1: value}, BadNumber)

    def test_names(self):
        for function, names, args in (
                (mended, "guard faults", (THREE, FAULTS)), (shows_mended, "guard faults value", (THREE, FAULTS, 0)),
                (best_table, "guard faults weights", (THREE, FAULTS, (1, 2, 3, 4))),
                (shows_best_table, "guard faults weights value", (THREE, FAULTS, (1, 2, 3, 4), 0)),
                (answered, "guard table letters", (THREE, (), "III")), (most_mended, "guard", (THREE,)),
                (shows_most_mended, "guard value", (THREE, 0)), (two_faults, "guard most", (THREE, 1)),
                (shows_two_faults, "guard most value", (THREE, 1, 0))):
            self.check_names(function, names, args)
            self.assertEqual(function.__module__, "guardedwires.mending")
            self.assertIs(getattr(mending, function.__name__), function)
