"""Section 20: nets."""

import random

from guardedwires import nets
from guardedwires.errors import BadLot, BadNet, BadNumber, Keeps, Wide
from guardedwires.guards import Guard, exchanged, led_guard, same_group
from guardedwires.nets import as_net, cut, cuts, net_guard, shows_as_net
from tests import oracle_sides
from tests.checking import Checking, all_guards, guard_of, junk, multiplied, near, random_guard
from tests.oracle import all_lots, is_numbers
from tests.oracle_sides import all_nets, is_many, is_net, net_words, rest_of, right_as_net

PAIR = Guard("wires 2\nguard +XX\nguard +ZZ")
LINE, STAR = ((0, 1), (1, 2), (2, 3)), ((0, 1), (0, 2), (0, 3))


def single_gates(chance, n, many):
    return tuple(f"{chance.choice('hsxz')} {chance.randrange(n)}" for _ in range(many))


class Nets(Checking):

    def test_net_guard(self):
        for many in range(1, 5):
            for net in all_nets(many):
                told = net_guard(many, net)
                self.assertIsInstance(told, Guard)
                self.assertEqual(told, guard_of(many, net_words(many, net)))
                self.assertEqual((told.kept, told), (0, net_guard(many, net)))
        chance = random.Random(6)
        for net in chance.sample(all_nets(5), 60):
            self.assertEqual(net_guard(5, net), guard_of(5, net_words(5, net)))
        self.assertEqual(net_guard(1, ()).words, ("+X",))

    def test_as_net(self):
        for turn in range(100):
            chance = random.Random(turn)
            n = 1 + turn % 4
            guard = random_guard(chance, n, n)
            told = as_net(guard)
            others = [(told[0], told[1] + single_gates(chance, n, 2)), (chance.choice(all_nets(n)), told[1])]
            others.append((told[0], tuple(gate for gate in told[1] if gate[0] != "z")))
            self.check_told(as_net, shows_as_net, right_as_net, (guard,), others, most=25)

    def test_as_net_of_all_small_guards(self):
        for guard in [guard for guard in all_guards(1) + all_guards(2) if guard.kept == 0]:
            told = as_net(guard)
            self.assertTrue(right_as_net(guard, told), (guard.text, told))
            self.assertIs(shows_as_net(guard, told), True)

    def test_as_net_of_five_wires(self):
        for turn in range(60):
            chance = random.Random(turn)
            guard = random_guard(chance, 5, 5)
            told = as_net(guard)
            self.assertIs(shows_as_net(guard, told), True)
            self.assertEqual(same_group(led_guard(guard, told[1]), net_guard(5, told[0])), ("same",))
            self.assertEqual(told, as_net(multiplied(chance, guard)))
            self.assertLessEqual(len(told[1]), 60)

    def test_nets_led_by_single_gates(self):
        for turn in range(60):
            chance = random.Random(turn)
            net = chance.choice(all_nets(4))
            gates = single_gates(chance, 4, 9)
            guard = led_guard(net_guard(4, net), gates)
            told = as_net(guard)
            self.assertTrue(right_as_net(guard, told))
            # Single gates leave all cuts as they are.
            self.assertEqual(cuts(4, told[0]), cuts(4, net))
            self.assertIs(shows_as_net(net_guard(4, net), (net, ())), True)

    def test_single_gates(self):
        self.assertIs(shows_as_net(PAIR, (((0, 1),), ("h 1",))), True)
        self.assertIs(shows_as_net(PAIR, (((0, 1),), ("h 0",))), True)
        for value in ((((0, 1),), ("h 1", "cz 0 1", "cz 0 1")), (((0, 1),), ["h 1"]), (((1, 0),), ("h 1",)), ((), ("h 1",)),
                      ([(0, 1)], ("h 1",)), (((0, 1), (0, 1)), ("h 1",)), (((False, 1),), ("h 1",)), [((0, 1),), ("h 1",)],
                      (((0, 1),), ("h 1", "x 0")), (((0, 1),), ("h 2",)), (((0, 1),),), (((0, 1),), ("h 1",), ())):
            self.assertIs(shows_as_net(PAIR, value), False, value)
        self.assertIs(shows_as_net(PAIR, (((0, 1),), ("h 1",) + ("x 0",) * 58)), True)
        self.assertIs(shows_as_net(PAIR, (((0, 1),), ("h 1", "s 0", "s 0", "z 0") + ("x 0",) * 56)), True)
        self.assertIs(shows_as_net(PAIR, (((0, 1),), ("h 1",) + ("x 0",) * 60)), False)

    def test_wide_guards_and_guards_that_keep_something(self):
        for guard in (Guard("wires 6"), random_guard(random.Random(1), 6, 6)):
            self.check_five(guard, Wide, 5)
        for many in range(5):
            self.check_five(random_guard(random.Random(2), 5, many), Keeps, 5 - many)
        self.check_five(Guard("wires 1"), Keeps, 1)

    def check_five(self, guard, error, value):
        for function, args in ((as_net, (guard,)), (shows_as_net, (guard, ((), ())))):
            with self.assertRaises(error) as caught:
                function(*args)
            self.assertIs(type(caught.exception), error)
            self.assertEqual(caught.exception.value, value)
            self.assertIs(type(caught.exception.value), int)

    def test_cut(self):
        for many in range(1, 5):
            for net in all_nets(many)[::1 if many < 4 else 5]:
                for lot in all_lots(many):
                    told = cut(many, net, lot)
                    self.assertEqual(told, oracle_sides.cut(many, net, lot))
                    self.assertIs(type(told), int)
        for net in random.Random(7).sample(all_nets(5), 20):
            for lot in all_lots(5):
                self.assertEqual(cut(5, net, lot), oracle_sides.cut(5, net, lot))
                self.assertEqual(cut(5, net, lot), cut(5, net, rest_of(lot, 5)))

    def test_cuts(self):
        for many in range(1, 6):
            for net in random.Random(many).sample(all_nets(many), min(12, len(all_nets(many)))):
                wanted = sorted((lot, oracle_sides.cut(many, net, lot)) for lot in all_lots(many) if 0 in lot)
                self.assertEqual(cuts(many, net), tuple(wanted))
        self.assertEqual(cuts(1, ()), (((0,), 0),))
        told = cuts(4, LINE)
        self.assertEqual([row[0] for row in told], [(0,), (0, 1), (0, 1, 2), (0, 1, 2, 3), (0, 1, 3), (0, 2), (0, 2, 3), (0, 3)])
        self.assertEqual([row[1] for row in told], [1, 1, 1, 0, 1, 2, 1, 2])
        self.assertEqual({row[1] for row in cuts(4, STAR)}, {0, 1})

    def test_wires_exchanged(self):
        for turn in range(40):
            chance = random.Random(turn)
            net = chance.choice(all_nets(5))
            wires = tuple(chance.sample(range(5), 5))
            along = tuple(sorted(tuple(sorted(wires.index(wire) for wire in pair)) for pair in net))
            self.assertEqual(same_group(exchanged(net_guard(5, net), wires), net_guard(5, along)), ("same",))
            for lot in chance.sample(all_lots(5), 6):
                its = tuple(sorted(wires.index(wire) for wire in lot))
                self.assertEqual(cut(5, net, lot), cut(5, along, its))

    def test_values_of_all_kinds(self):
        for guard in (PAIR, Guard("wires 1\nguard -Y"), Guard("wires 2\nguard +XI\nguard +IX")):
            self.check_junk(shows_as_net, right_as_net, (guard,))
            self.check_shows(shows_as_net, right_as_net, (guard,), [((), value) for value in junk()])
            self.check_shows(shows_as_net, right_as_net, (guard,), [(value, ()) for value in junk()])

    def test_wrong_arguments(self):
        number = (BadNumber, is_many)
        net = (BadNet, lambda value: is_net(value, 3))
        lot = (BadLot, lambda value: is_numbers(value, 3))
        three = ((0, 1), (1, 2))
        for function in (net_guard, cuts):
            self.check_wrong(function, (3, three), [number, net])
        self.check_wrong(cut, (3, three, (0,)), [number, net, lot])
        for value in (0, 6, True, -1, "3", None, 3.0, (3,)):
            for function, rest in ((net_guard, ()), (cuts, ()), (cut, ((),))):
                self.check_refused(function, (3, ()) + rest, {0: value}, BadNumber)
        for value in list(near(three)) + [((1, 2), (0, 1)), ((0, 1), (0, 1)), ((0, 0),), ((1, 0),), ((0, 3),), ((0, 1, 2),), ((0,),),
                                          [(0, 1)], ([0, 1],), (0, 1), ((False, 1),), ((-1, 1),), ("01",)]:
            if not is_net(value, 3):
                for function, rest in ((net_guard, ()), (cuts, ()), (cut, ((),))):
                    self.check_refused(function, (3, three) + rest, {1: value}, BadNet)
        self.check_refused(net_guard, (5, ((0, 4),)), {1: ((0, 5),)}, BadNet)
        self.assertEqual(net_guard(5, ((0, 4),)).words[4], "+ZIIIX")
        for value in ((3,), (1, 0), (0, 0), (True,), [0], 0):
            self.check_refused(cut, (3, three, ()), {2: value}, BadLot)

    def test_names(self):
        for function, names, args in (
                (net_guard, "many net", (2, ())), (as_net, "guard", (PAIR,)), (shows_as_net, "guard value", (PAIR, 0)),
                (cut, "many net lot", (2, (), ())), (cuts, "many net", (2, ()))):
            self.check_names(function, names, args)
            self.assertEqual(function.__module__, "guardedwires.nets")
            self.assertIs(getattr(nets, function.__name__), function)
