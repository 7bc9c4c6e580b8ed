"""Section 21: one net by turns."""

import random

from guardedwires import turning
from guardedwires.errors import BadHeard, BadNet, BadNumber, BadWire, Never
from guardedwires.guards import led_guard, same_group
from guardedwires.nets import as_net, cuts, net_guard
from guardedwires.turning import (all_turned, fewest_ties, looked_net, one_net, shows_fewest_ties, shows_looked_net,
                                  shows_one_net, turned)
from tests import oracle_turns
from tests.checking import Checking, guard_of, junk, near
from tests.oracle import all_lots
from tests.oracle_sides import all_nets, is_many, is_net, net_words
from tests.oracle_turns import far, right_fewest_ties, right_looked_net, right_one_net, turned_along
from tests.test_nets import LINE, STAR, single_gates

SHORT, ROUND_THREE = ((0, 1), (1, 2)), ((0, 1), (0, 2), (1, 2))
HEARD = ("+X", "+Y", "+Z", "-X", "-Y", "-Z")


def full(many):
    return tuple((one, other) for one in range(many) for other in range(one + 1, many))


def nets_by_turns(many):
    """For each lot of nets that come of one another by turns the least one."""
    found, seen = [], set()
    for net in all_nets(many):
        if net not in seen:
            found.append(net)
            seen |= set(far(many, net))
    return found


class Turning(Checking):

    def test_turned(self):
        for many in range(1, 6):
            for net in random.Random(many).sample(all_nets(many), min(200, len(all_nets(many)))):
                for wire in range(many):
                    told = turned(many, net, wire)
                    self.assertEqual(told, oracle_turns.turned(net, wire, many))
                    self.assertIs(is_net(told, many), True)
                    self.assertEqual(turned(many, told, wire), net)
        self.assertEqual(turned(5, STAR, 0), ((0, 1), (0, 2), (0, 3), (1, 2), (1, 3), (2, 3)))
        self.assertEqual(turned(5, ((0, 4), (1, 4), (2, 4), (3, 4)), 4), full(5))
        self.assertEqual([turned(1, (), 0), turned(5, (), 4), turned(2, ((0, 1),), 1)], [(), (), ((0, 1),)])

    def test_turns_leave_cuts(self):
        for net in random.Random(1).sample(all_nets(5), 40):
            for wire in range(5):
                self.assertEqual(cuts(5, net), cuts(5, turned(5, net, wire)))

    def test_one_net_of_small_nets(self):
        for many in range(1, 4):
            for net in all_nets(many):
                for other in all_nets(many):
                    told = one_net(many, net, other)
                    self.assertTrue(right_one_net(many, net, other, told), (net, other, told))
                    self.assertIs(shows_one_net(many, net, other, told), True)
                    is_one = oracle_turns.is_one_but_for_turns(many, net, other)
                    self.assertEqual(told[0], "turns" if is_one else "apart")
                    self.assertEqual(is_one, cuts(many, net) == cuts(many, other))

    def test_one_net_of_four_wires(self):
        for net in nets_by_turns(4):
            for other in nets_by_turns(4):
                told = one_net(4, net, other)
                self.assertEqual(told[0] == "turns", net == other)
                self.assertEqual(oracle_turns.is_one_but_for_turns(4, net, other), net == other)

    def test_one_net_of_five_wires(self):
        """Each lot of nets by turns has other cuts than the others, and five turns are enough."""
        lots = nets_by_turns(5)
        self.assertEqual(len({cuts(5, net) for net in lots}), len(lots))
        for net in lots:
            self.assertLessEqual(max(far(5, net).values()), 5)
            self.assertEqual({cuts(5, other) for other in far(5, net)}, {cuts(5, net)})
            self.assertEqual(one_net(5, net, lots[0])[0] == "turns", net == lots[0])
        most = 0
        for turn in range(150):
            chance = random.Random(turn)
            net = chance.choice(all_nets(5))
            other = chance.choice(sorted(far(5, net)))
            told = one_net(5, net, other)
            self.assertEqual((told[0], len(told[1])), ("turns", far(5, net)[other]))
            self.assertEqual(turned_along(net, told[1], 5), other)
            self.assertEqual(same_group(led_guard(net_guard(5, net), told[2]), net_guard(5, other)), ("same",))
            self.assertLessEqual(len(told[2]), 60)
            self.assertEqual({gate.split(" ")[0] for gate in told[2]} - set("hsxz"), set())
            most = max(most, len(told[1]))
        self.assertGreaterEqual(most, 3)

    def test_one_net_shown(self):
        for turn in range(40):
            chance = random.Random(turn)
            many = 1 + turn % 4
            net = chance.choice(all_nets(many))
            other = chance.choice([chance.choice(all_nets(many)), chance.choice(sorted(far(many, net)))])
            lots = [("apart", lot) for lot in all_lots(many)]
            ways = [("turns", (wire,), ()) for wire in range(many)] + [("turns", (), ())]
            self.check_told(one_net, shows_one_net, right_one_net, (many, net, other),
                            chance.sample(lots, 2) + ways[-2:], most=40)
            self.check_shows(shows_one_net, right_one_net, (many, net, other), lots + ways)

    def test_other_ways_that_are_as_short(self):
        """Turns at two wires that are not tied may stand in either sequence; more turns than needed will not do."""
        net, wires = ((0, 1), (1, 2), (2, 3), (3, 4)), (1, 3)
        other = turned_along(net, wires, 5)
        gates = one_net(5, net, other)[2]
        for its in (wires, wires[::-1]):
            self.assertIs(shows_one_net(5, net, other, ("turns", its, gates)), True)
        for its in ((1, 3, 1, 1), (1, 3, 0, 0), (1,), (3,), (), (1, 2), [1, 3], (1, True), (1, -2), (1, 5), (1, 3.0)):
            self.assertIs(shows_one_net(5, net, other, ("turns", its, gates)), False, its)
        more = ("z 0",) * ((60 - len(gates)) // 2 * 2)
        self.assertIs(shows_one_net(5, net, other, ("turns", wires, gates + more)), True)
        self.assertIs(shows_one_net(5, net, other, ("turns", wires, gates + more[1:])), False)
        self.assertIs(shows_one_net(5, net, net, ("turns", (), ("x 0",) * 60)), True)
        self.assertIs(shows_one_net(5, net, net, ("turns", (), ("x 0",) * 62)), False)
        self.assertIs(shows_one_net(5, net, net, ("turns", (), ("swap 0 4", "swap 0 4"))), False)
        self.assertIs(shows_one_net(5, net, net, ("turns", (0, 0), ())), False)

    def test_all_turned(self):
        for many in range(1, 6):
            for net in random.Random(many).sample(all_nets(many), min(40, len(all_nets(many)))):
                told = all_turned(many, net)
                self.assertEqual(told, tuple(sorted(far(many, net))))
                self.assertIn(net, told)
                self.assertEqual(told, all_turned(many, told[-1]))
        self.assertEqual([all_turned(1, ()), all_turned(5, ()), all_turned(2, ((0, 1),))], [((),), ((),), (((0, 1),),)])

    def test_fewest_ties(self):
        for turn in range(60):
            chance = random.Random(turn)
            many = 1 + turn % 5
            net = chance.choice(all_nets(many))
            others = [(len(other), chance.choice([(), (0,), (0, many - 1)]),
                       other) for other in chance.sample(sorted(far(many, net)), 1)]
            others.append((len(net), (), net))
            self.check_told(fewest_ties, shows_fewest_ties, right_fewest_ties, (many, net), others, most=60)
        self.assertEqual(fewest_ties(5, full(5))[0], 4)
        self.assertEqual(fewest_ties(1, ()), (0, (), ()))
        self.assertEqual(fewest_ties(4, LINE)[0], 3)

    def test_any_net_with_fewest_ties(self):
        for wire in range(3):
            other = tuple(tie for tie in ROUND_THREE if wire in tie)
            self.assertIs(shows_fewest_ties(3, ROUND_THREE, (2, (wire,), other)), True)
            for value in ((2, (), other), (2, (wire, wire, wire), other), (3, (wire,), other), (True, (wire,), other),
                          (2, ((wire + 1) % 3,), other), (3, (), ROUND_THREE), (2, (), ROUND_THREE),
                          (2, (wire,), list(other))):
                self.assertIs(shows_fewest_ties(3, ROUND_THREE, value), False)

    def test_looked_net(self):
        for turn in range(120):
            chance = random.Random(turn)
            many = 1 + turn % 4
            net = chance.choice(all_nets(many))
            args = (many, net, chance.randrange(many), chance.choice(HEARD))
            if oracle_turns.group_told(frozenset(oracle_turns.group_of(many, net_words(many, net))),
                                       oracle_turns.word_at(many, *args[2:])) is None:
                self.check_never(*args)
                continue
            told = looked_net(*args)
            others = [(told[0], told[1] + single_gates(chance, many, 1)), (chance.choice(all_nets(many)), told[1]),
                      (net, told[1]), (told[0], ())]
            self.check_told(looked_net, shows_looked_net, right_looked_net, args, others, most=25)

    def test_looked_net_of_five_wires(self):
        for turn in range(60):
            chance = random.Random(turn)
            net, wire, heard = chance.choice(all_nets(5)), chance.randrange(5), chance.choice(HEARD)
            if heard == "-X" and not any(wire in tie for tie in net):
                self.check_never(5, net, wire, heard)
            else:
                told = looked_net(5, net, wire, heard)
                self.assertTrue(right_looked_net(5, net, wire, heard, told))
                self.assertIs(shows_looked_net(5, net, wire, heard, told), True)

    def check_never(self, many, net, wire, heard):
        for function, more in ((looked_net, ()), (shows_looked_net, ((net, ()),))):
            with self.assertRaises(Never) as caught:
                function(many, net, wire, heard, *more)
            self.assertEqual(caught.exception.value, oracle_turns.word_at(many, wire, heard))

    def test_by_a_look_the_wire_goes_out(self):
        """By Z the others stay tied as they are; by Y as they are in the turned net."""
        for turn in range(40):
            chance = random.Random(turn)
            net, wire = chance.choice(all_nets(5)), chance.randrange(5)
            for heard in ("+Z", "-Z", "+Y", "-Y"):
                if heard[1] == "Y" and not any(wire in tie for tie in net):
                    continue
                ahead = net if heard[1] == "Z" else turned(5, net, wire)
                told = looked_net(5, net, wire, heard)
                left = tuple(tie for tie in ahead if wire not in tie)
                self.assertEqual(cuts(5, told[0]), cuts(5, left))

    def test_never(self):
        for many in range(1, 6):
            for wire in range(many):
                self.check_never(many, (), wire, "-X")
                self.assertEqual(looked_net(many, (), wire, "+X"), ((), ()))
                self.assertIs(shows_looked_net(many, (), wire, "-Z", ((), (f"h {wire}", f"z {wire}"))), True)
        self.check_never(4, ((0, 1), (1, 2)), 3, "-X")
        self.assertEqual(looked_net(2, ((0, 1),), 0, "-X")[0], ())

    def test_single_gates_and_the_lone_wire(self):
        right = ((), ("h 1",))
        for value in (((), ("h 1", "cz 0 2", "cz 0 2")), ((), ["h 1"]), ([], ("h 1",)), [(), ("h 1",)],
                      ((), ("h 1",), ()),
                      ((), ("h 1",) + ("x 0",) * 60), (SHORT, ("h 1",)), (((0, 2),), ("h 1",)), ((), ()), ((),)):
            self.assertIs(shows_looked_net(3, SHORT, 1, "+Z", value), False, value)
        self.assertIs(shows_looked_net(3, SHORT, 1, "+Z", right), True)
        self.assertIs(shows_looked_net(3, SHORT, 1, "+Z", ((), ("h 1",) + ("z 1",) * 58)), True)
        self.assertIs(shows_looked_net(3, SHORT, 1, "-Z", right), False)
        # A net with ties at the wire is none, though gates lead to its guard.
        guard = guard_of(2, ("+XI", "+IX"))
        self.assertEqual(as_net(guard)[0], ())

    def test_wires_exchanged(self):
        for turn in range(30):
            chance = random.Random(turn)
            net, other = chance.choice(all_nets(5)), chance.choice(all_nets(5))
            wires = tuple(chance.sample(range(5), 5))
            mine, its = [tuple(sorted(tuple(sorted(wires.index(wire) for wire in tie)) for tie in one)) for one in (net, other)]
            self.assertEqual(one_net(5, net, other)[0], one_net(5, mine, its)[0])
            self.assertEqual(len(all_turned(5, net)), len(all_turned(5, mine)))
            self.assertEqual(fewest_ties(5, net)[0], fewest_ties(5, mine)[0])

    def test_values_of_all_kinds(self):
        self.check_junk(shows_one_net, right_one_net, (3, SHORT, ROUND_THREE))
        self.check_junk(shows_one_net, right_one_net, (3, SHORT, ((0, 1),)))
        self.check_junk(shows_one_net, right_one_net, (1, (), ()))
        self.check_junk(shows_fewest_ties, right_fewest_ties, (3, ROUND_THREE))
        self.check_junk(shows_looked_net, right_looked_net, (3, SHORT, 1, "+Z"))
        for value in junk():
            self.assertIs(shows_one_net(3, SHORT, ROUND_THREE, ("turns", (1,), value)), False)
            self.check_shows(shows_one_net, right_one_net, (3, SHORT, ROUND_THREE),
                             [("turns", value, one_net(3, SHORT, ROUND_THREE)[2]), ("turns", value, value)])
            self.check_shows(shows_fewest_ties, right_fewest_ties, (3, ROUND_THREE),
                             [(2, value, SHORT), (2, (1,), value), (value, (1,), SHORT)])
            self.check_shows(shows_looked_net, right_looked_net, (3, SHORT, 1, "+Z"), [((), value), (value, ("h 1",))])

    def test_wrong_arguments(self):
        number, net = (BadNumber, is_many), (BadNet, lambda value: is_net(value, 3))
        wire = (BadWire, lambda value: type(value) is int and 0 <= value < 3)
        heard = (BadHeard, lambda value: type(value) is str and value in HEARD)
        self.check_wrong(turned, (3, SHORT, 1), [number, net, wire])
        self.check_wrong(one_net, (3, SHORT, ()), [number, net, net])
        self.check_wrong(shows_one_net, (3, SHORT, (), 0), [number, net, net, None])
        self.check_wrong(all_turned, (3, SHORT), [number, net])
        self.check_wrong(fewest_ties, (3, SHORT), [number, net])
        self.check_wrong(shows_fewest_ties, (3, SHORT, 0), [number, net, None])
        self.check_wrong(looked_net, (3, SHORT, 1, "+Z"), [number, net, wire, heard])
        self.check_wrong(shows_looked_net, (3, SHORT, 1, "+Z", 0), [number, net, wire, heard, None])
        for value in ("+I", "Z", "+Z ", "+z", "+ZI", "-XX", "", "+", b"+Z", ("+", "Z"), ["+Z"], True):
            self.check_refused(looked_net, (3, SHORT, 1, "+Z"), {3: value}, BadHeard)
        for value in list(near(SHORT)) + [((0, 3),), ((1, 2), (0, 1)), ((2, 1),)]:
            if not is_net(value, 3):
                for function, rest in ((turned, (0,)), (all_turned, ()), (fewest_ties, ()), (looked_net, (0, "+X"))):
                    self.check_refused(function, (3, SHORT) + rest, {1: value}, BadNet)
                self.check_refused(one_net, (3, SHORT, SHORT), {2: value}, BadNet)
        for value in (3, -1, True, "1", 1.0, None, (1,)):
            self.check_refused(turned, (3, SHORT, 1), {2: value}, BadWire)
        self.check_refused(looked_net, (1, (), 0, "-X"), {2: False}, BadWire)

    def test_names(self):
        for function, names, args in (
                (turned, "many net wire", (2, (), 0)), (one_net, "many net other", (2, (), ())),
                (shows_one_net, "many net other value", (2, (), (), 0)), (all_turned, "many net", (2, ())),
                (fewest_ties, "many net", (2, ())), (shows_fewest_ties, "many net value", (2, (), 0)),
                (looked_net, "many net wire heard", (2, (), 0, "+X")),
                (shows_looked_net, "many net wire heard value", (2, (), 0, "+X", 0))):
            self.check_names(function, names, args)
            self.assertEqual(function.__module__, "guardedwires.turning")
            self.assertIs(getattr(turning, function.__name__), function)
