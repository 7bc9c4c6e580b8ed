"""Section 12: how many letters words have."""

import random
from itertools import product

from guardedwires import counting
from guardedwires.counting import by_lots, of_group, of_passing, other_row
from guardedwires.errors import BadRow
from guardedwires.guards import Guard, exchanged
from tests import oracle_looks
from tests.checking import Checking, all_guards, junk, multiplied, near, opposite, random_guard, some_guard
from tests.oracle_guards import group_letters, passing_guard
from tests.oracle_looks import count_weights

FOUR = Guard("wires 4\nguard +XXXX\nguard +ZZZZ")


class Counting(Checking):

    def test_of_group_and_of_passing(self):
        for guard in all_guards(1) + all_guards(2)[::7] + [some_guard(turn) for turn in range(60)]:
            self.assertEqual(of_group(guard), count_weights(guard.wires, group_letters(guard)))
            self.assertEqual(of_passing(guard), count_weights(guard.wires, passing_guard(guard)))
            self.assertEqual(of_group(guard), of_group(Guard(guard.text)))
            self.assertEqual({type(many) for many in of_group(guard) + of_passing(guard)}, {int})

    def test_the_greatest(self):
        self.assertEqual(of_passing(Guard("wires 6")), (1, 18, 135, 540, 1215, 1458, 729))
        self.assertEqual(of_group(Guard("wires 6")), (1, 0, 0, 0, 0, 0, 0))
        chance = random.Random(2)
        for many in range(7):
            guard = random_guard(chance, 6, many)
            self.assertEqual(sum(of_group(guard)), 1 << many)
            self.assertEqual(sum(of_passing(guard)), 1 << 12 - many)
            self.assertEqual(other_row(of_group(guard)), of_passing(guard))
            self.assertEqual(other_row(of_passing(guard)), of_group(guard))

    def test_each_row_tells_the_other_one(self):
        for guard in all_guards(1) + all_guards(2)[::5] + [some_guard(turn, 5) for turn in range(80)]:
            self.assertEqual(other_row(of_group(guard)), of_passing(guard))
            self.assertEqual(other_row(of_passing(guard)), of_group(guard))

    def test_all_small_rows(self):
        for many, most in ((2, 20), (3, 12), (4, 7), (5, 4)):
            told = []
            for row in product(range(most), repeat=many):
                wanted = oracle_looks.other_row(row)
                told.append(wanted is not None)
                if wanted is None:
                    self.check_refused(other_row, (row,), {0: row}, BadRow)
                else:
                    self.assertEqual(other_row(row), wanted)
                    self.assertEqual({type(part) for part in wanted}, {int})
            self.assertIn(True, told)
            self.assertIn(False, told)

    def test_rows_that_lead_below_nought_or_between(self):
        self.check_refused(other_row, ((1, 4),), {0: (1, 4)}, BadRow)
        self.check_refused(other_row, ((1, 2),), {0: (1, 2)}, BadRow)
        self.assertEqual(other_row((1, 3)), (1, 0))
        self.assertEqual(other_row((1, 0)), (1, 3))
        self.assertEqual(other_row((1, 1)), (1, 1))

    def test_wrong_rows(self):
        for value in junk() + [part for row in ((1, 3), (1, 0, 18, 24, 21), (1, 0, 0, 0, 0, 0, 0)) for part in near(row)]:
            if oracle_looks.other_row(value) is None:
                self.check_refused(other_row, (value,), {0: value}, BadRow)
        for value in ((1,), (), (1, 0, 0, 0, 0, 0, 0, 0), (True, 3), (1, False), (0, 4), (2, 6), [1, 3], (1, -1), (1, "3"),
                      (1, 3.0), (1, None)):
            self.check_refused(other_row, ((1, 3),), {0: value}, BadRow)

    def test_by_lots(self):
        for guard in all_guards(1) + all_guards(2)[::7] + [some_guard(turn) for turn in range(60)] + [FOUR]:
            self.assertEqual(by_lots(guard), oracle_looks.by_lots(guard))
        told = by_lots(Guard("wires 6\nguard +ZZIIII"))
        self.assertEqual([row[0] for row in told[:9]], [(), (0,), (1,), (2,), (3,), (4,), (5,), (0, 1), (0, 2)])
        self.assertEqual((len(told), told[7], told[-1]), (64, ((0, 1), 1, 3), ((0, 1, 2, 3, 4, 5), 1, 11)))

    def test_what_is_here_and_what_is_there(self):
        for turn in range(40):
            guard = some_guard(turn, 5)
            told = {lot: row for lot, *row in by_lots(guard)}
            for lot, (_, passing) in told.items():
                rest = tuple(wire for wire in range(guard.wires) if wire not in lot)
                self.assertEqual(passing, 2 * len(lot) - len(guard) + told[rest][0])

    def test_groups_alone_and_contraries(self):
        for turn in range(30):
            guard = some_guard(turn, 5)
            for other in (multiplied(random.Random(turn), guard), opposite(random.Random(turn), guard)):
                for function in (of_group, of_passing, by_lots):
                    self.assertEqual(function(guard), function(other))

    def test_wires_exchanged(self):
        for turn in range(20):
            guard = some_guard(turn, 5)
            wires = random.Random(turn).sample(range(guard.wires), guard.wires)
            other = exchanged(guard, tuple(wires))
            self.assertEqual((of_group(guard), of_passing(guard)), (of_group(other), of_passing(other)))
            along = [(tuple(k for k in range(guard.wires) if wires[k] in lot),) + tuple(row) for lot, *row in by_lots(guard)]
            self.assertEqual(sorted(along), sorted(by_lots(other)))

    def test_names(self):
        for function, names, args in ((of_group, "guard", (FOUR,)), (of_passing, "guard", (FOUR,)),
                                      (other_row, "row", ((1, 3),)), (by_lots, "guard", (FOUR,))):
            self.check_names(function, names, args)
            self.assertEqual(function.__module__, "guardedwires.counting")
            self.assertIs(getattr(counting, function.__name__), function)
