"""Section 22: flows."""

import random
from itertools import combinations, product

from guardedwires import flows
from guardedwires.errors import BadFlow, BadHeard, BadLot, NoWire
from guardedwires.flows import fewest_layers, flow, last, owed, shows_fewest_layers, shows_flow, shows_last
from guardedwires.guards import Guard, exchanged, group, led_guard
from guardedwires.nets import net_guard
from tests import oracle_turns
from tests.checking import Checking, all_guards, guard_of, junk, multiplied, near, opposite, random_guard, some_guard
from tests.oracle import all_letters, all_lots, contrary, cross, is_numbers, misses, words_cross
from tests.oracle_guards import passing_guard
from tests.oracle_turns import fewest_lots, has_flow, is_any_flow, right_fewest_layers, right_flow, right_last

ROW = Guard("wires 3\nguard +XZI\nguard +ZXZ\nguard +IZX")
TWICE = Guard("wires 4\nguard +XZII\nguard +ZXII\nguard +IIXZ\nguard +IIZX")
LONG = net_guard(5, ((0, 1), (1, 2), (2, 3), (3, 4)))
NOTHING = Guard("wires 2")


def tied_words(n, ties):
    """The words of the guard of a net, of any number of wires."""
    return ["+" + "".join("X" if at == wire else "Z" if (min(at, wire),
                                                         max(at, wire)) in ties else "I" for at in range(n))
            for wire in range(n)]


def flowing(turn, most=4):
    """A guard for which there are flows of some lots: some guard, that of a net, less a word, or with Z's for X's."""
    chance = random.Random(turn)
    n = 1 + turn % most
    if turn // most % 4 == 0:
        return some_guard(turn, most)
    guard = guard_of(n, tied_words(n, [tie for tie in combinations(range(n), 2) if chance.random() < 0.5]))
    if turn // most % 4 == 1:
        return multiplied(chance, guard.without(chance.randrange(n)))
    if turn // most % 4 == 2:
        return led_guard(guard, tuple(f"h {wire}" for wire in range(n) if chance.random() < 0.7))
    return opposite(chance, guard)


def random_heard(chance, many):
    return "".join(chance.choice("+-") for _ in range(many))


def flipped(word, letters):
    return contrary(word) if cross(word[1:], letters) else word


def longer_flow(chance, guard, lot):
    """A flow that is taken at random, by words of the whole group; None if there is none."""
    wires, words, left = (), (), list(lot)
    while left:
        able = [wire for wire in left if last(guard, tuple(left), wire)[0] == "word"]
        if not able:
            return None
        wire = chance.choice(able)
        fit = [word for word in group(guard) if oracle_turns.frees(guard, word, wire, set(left) - {wire})]
        wires, words = (wire,) + wires, (chance.choice(fit),) + words
        left.remove(wire)
    return wires, words


class Flows(Checking):

    def test_last(self):
        for turn in range(90):
            guard, chance = flowing(turn), random.Random(turn)
            for lot in all_lots(guard.wires):
                for wire in lot:
                    told = last(guard, lot, wire)
                    self.assertTrue(right_last(guard, lot, wire, told), (guard.text, lot, wire, told))
                    self.assertEqual(told[0] == "word", oracle_turns.can_be_last(guard, lot, wire))
                    self.assertIs(shows_last(guard, lot, wire, told), True)
            lot = chance.choice(all_lots(guard.wires)[1:])
            wire = chance.choice(lot)
            others = [("word", word) for word in group(guard)]
            others += [("barred", letters) for letters in sorted(passing_guard(guard))]
            self.check_told(last, shows_last, right_last, (guard, lot, wire),
                            chance.sample(others, min(3, len(others))), most=60)
            self.check_shows(shows_last, right_last, (guard, lot, wire), others)
            self.check_shows(shows_last, right_last, (guard, lot, wire),
                             [("barred", letters) for letters in sorted(all_letters(guard.wires))[::3]])

    def test_flow_of_all_small_guards(self):
        for guard in all_guards(1) + all_guards(2):
            for lot in all_lots(guard.wires):
                self.check_flow_and_layers(guard, lot)

    def check_flow_and_layers(self, guard, lot):
        """That there is a flow just where some sequence of the wires goes, and layers as few as can be."""
        told, layers = flow(guard, lot), fewest_layers(guard, lot)
        self.assertTrue(right_flow(guard, lot, told), (guard.text, lot, told))
        self.assertTrue(right_fewest_layers(guard, lot, layers), (guard.text, lot, layers))
        self.assertEqual(told[0] == "flow", has_flow(guard, lot))
        self.assertEqual(layers[0], "layers" if told[0] == "flow" else "stuck")
        self.assertIs(shows_flow(guard, lot, told), True)
        self.assertIs(shows_fewest_layers(guard, lot, layers), True)
        if layers[0] == "layers":
            self.assertEqual(len(layers[1]), fewest_lots(guard, lot))
        return told, layers

    def test_flow(self):
        found = set()
        for turn in range(75):
            guard, chance = flowing(turn), random.Random(turn)
            for lot in all_lots(guard.wires):
                found.add((self.check_flow_and_layers(guard, lot)[0][0], len(lot)))
            lot = chance.choice(all_lots(guard.wires))
            self.check_told(flow, shows_flow, right_flow, (guard, lot),
                            [flow(guard, its) for its in all_lots(guard.wires)[-2:]], most=50)
            self.check_told(fewest_layers, shows_fewest_layers, right_fewest_layers, (guard, lot), [flow(guard, lot)],
                            most=50)
        self.assertEqual({many for name, many in found if name == "stuck"}, {1, 2, 3, 4})
        self.assertLessEqual({0, 1, 2, 3}, {many for name, many in found if name == "flow"})

    def test_any_flow(self):
        """Whoever takes wires that can be the last one comes to a flow, which is shown to be one."""
        for turn in range(80):
            guard, chance = flowing(turn, 5), random.Random(turn)
            for lot in chance.sample(all_lots(guard.wires), min(5, len(all_lots(guard.wires)))):
                told, one = flow(guard, lot), longer_flow(chance, guard, lot)
                self.assertEqual(told[0] == "flow", one is not None)
                if one is not None:
                    self.assertIs(shows_flow(guard, lot, ("flow",) + one), True)
                    self.check_shows(shows_flow, right_flow, (guard, lot), [
                        ("flow", one[0][::-1], one[1][::-1]), ("flow", one[0][::-1], one[1]),
                            ("flow", one[0][1:], one[1][1:]),
                        ("flow", one[0], tuple("-" + word[1:] for word in one[1])), ("flow", list(one[0]), one[1]),
                        ("flow", one[0], one[1][:-1]), ("flow", one[0], one[1] + one[1])])

    def test_any_lot_that_is_stuck(self):
        """Any lot of wires none of which can be last shows it, also a lesser one."""
        guard = Guard("wires 4\nguard +ZZII\nguard +IIZZ")
        both = ("XXII", "XXII")
        for some, rows in (((0, 1), both), ((2, 3), ("IIXX", "IIYX")),
                           ((0, 1, 2, 3), ("XXII", "YXXX", "XXXX", "IIXY"))):
            for lot in ((0, 1, 2, 3), (0, 1), (2, 3)):
                value = ("stuck", some, rows)
                self.assertIs(shows_flow(guard, lot, value), right_flow(guard, lot, value))
                self.assertIs(shows_fewest_layers(guard, lot, value), set(some) <= set(lot), (some, lot))
        for value in (("stuck", (), ()), ("stuck", (0,), ("XIII",)), ("stuck", (0, 1), ("XXII",)),
                      ("stuck", (0, 1), ("XXII", "ZZII")),
                      ("stuck", (0, 1), ("XXXX", "XXII")), ("stuck", (1, 0), both), ("stuck", (0, 1), list(both)),
                      ("stuck", (False, 1), both), ("stuck", (0, 4), both), ("stuck", (0, 1), ("XXII", "IXXI"))):
            self.assertIs(shows_flow(guard, (0, 1, 2, 3), value), False, value)

    def test_other_layers(self):
        """As few lots as can be, but any such; more lots do not do, nor words that do not spare their own layer."""
        told = fewest_layers(TWICE, (0, 2))
        self.assertEqual(told, ("layers", ((0, 2),), (("+ZXII", "+IIZX"),)))
        for value in (("layers", ((0,), (2,)), (("+ZXII",), ("+IIZX",))),
                      ("layers", ((2,), (0,)), (("+IIZX",), ("+ZXII",))),
                      ("layers", ((0, 2), ()), (("+ZXII", "+IIZX"), ())), ("layers", ((2, 0),), (("+IIZX", "+ZXII"),)),
                      ("layers", ((0, 2),), (("+ZXZX", "+IIZX"),)), ("layers", ((0, 2),), (("-ZXII", "+IIZX"),)),
                      ("layers", ((0, 2),), (("+IIZX", "+ZXII"),)), ("layers", [(0, 2)], (("+ZXII", "+IIZX"),)),
                      ("layers", ((0, 2),), (("+ZXII", "+IIZX"),) * 2), ("layers", ((0,),), (("+ZXII",),)),
                      ("layers", ((False, 2),), (("+ZXII", "+IIZX"),)), ("layers", ((0, 2),), (("+ZXII",),)),
                      ("flow", (0, 2), ("+ZXII", "+IIZX")), ("layers", (0, 2), ("+ZXII", "+IIZX"))):
            self.assertIs(shows_fewest_layers(TWICE, (0, 2), value), False, value)
        self.assertEqual(fewest_layers(LONG, (0, 1, 2, 3))[1], ((0,), (1,), (2,), (3,)))
        self.assertEqual(fewest_layers(LONG, (0, 2))[1], ((0, 2),))
        two = net_guard(5, ((0, 1), (1, 2), (3, 4)))
        for lots in (((0,), (1, 3)), ((0, 3), (1,))):
            words = {0: "+ZXZII", 1: "+IZXII", 3: "+IIIZX"}
            value = ("layers", lots, tuple(tuple(words[wire] for wire in lot) for lot in lots))
            self.assertIs(shows_fewest_layers(two, (0, 1, 3), value), True, value)

    def test_lots_of_no_wire_and_of_all(self):
        for turn in range(40):
            guard = flowing(turn, 6)
            self.assertEqual(flow(guard, ()), ("flow", (), ()))
            self.assertEqual(fewest_layers(guard, ()), ("layers", (), ()))
            self.assertEqual(owed(guard, (), (), ""), ("", "I" * guard.wires))
            for value in (("flow", (), ()), ("layers", (), ()), ("stuck", (), ()), ("flow", [], ()), ("flow", (), []),
                          ("flow", ()),
                          ("layers", ((),), ((),)), ("stuck", (0,), ("X" + "I" * (guard.wires - 1),))):
                self.assertIs(shows_flow(guard, (), value), value == ("flow", (), ()), value)
                self.assertIs(shows_fewest_layers(guard, (), value), value == ("layers", (), ()), value)
        zs = guard_of(6, ["+" + "I" * wire + "Z" + "I" * (5 - wire) for wire in range(6)])
        self.assertEqual(fewest_layers(zs, tuple(range(6)))[1], (tuple(range(6)),))
        self.assertEqual(flow(NOTHING, (0, 1)), ("stuck", (0, 1), flow(NOTHING, (0, 1))[2]))
        self.assertEqual(flow(Guard("wires 1\nguard -Z"), (0,)), ("flow", (0,), ("-Z",)))
        self.assertEqual(flow(Guard("wires 1\nguard +X"), (0,)), ("stuck", (0,), ("X",)))
        self.assertEqual(last(Guard("wires 1\nguard +Y"), (0,), 0), ("barred", "Y"))

    def test_six_wires(self):
        for turn in range(30):
            chance = random.Random(turn)
            guard = random_guard(chance, 6, turn % 7)
            if turn % 2 == 1:
                ties = [tie for tie in combinations(range(6), 2) if chance.random() < 0.4]
                guard = multiplied(chance, guard_of(6, tied_words(6, ties)))
            lot = tuple(sorted(chance.sample(range(6), 4)))
            told = flow(guard, lot)
            self.assertTrue(right_flow(guard, lot, told))
            self.assertIs(shows_flow(guard, lot, told), True)
            self.assertEqual(told[0], flow(multiplied(chance, guard), lot)[0])

    def test_owed(self):
        for turn in range(120):
            guard, chance = flowing(turn, 5), random.Random(turn)
            lot = chance.choice(all_lots(guard.wires))
            one = longer_flow(chance, guard, lot)
            if one is not None:
                for _ in range(6):
                    heard = random_heard(chance, len(lot))
                    self.assertEqual(owed(guard, *one, heard), oracle_turns.owed(guard.wires, *one, heard))
                self.assertEqual(owed(guard, *one, "+" * len(lot)), ("+" * len(lot), "I" * guard.wires))

    def test_owed_along_long_lines(self):
        wires, words = (0, 1, 2, 3), ("+ZXZII", "+IZXZI", "+IIZXZ", "+IIIZX")
        for heard in [format(k, "04b").replace("0", "+").replace("1", "-") for k in range(16)]:
            self.assertEqual(owed(LONG, wires, words, heard), oracle_turns.owed(5, wires, words, heard))
        self.assertEqual(owed(LONG, wires, words, "-+++"), ("+-+-", "IIIIZ"))
        self.assertEqual(owed(LONG, wires, words, "+++-"), ("++++", "IIIIX"))
        self.assertEqual(owed(LONG, wires, words, "++-+"), ("+++-", "IIIIZ"))

    def test_what_is_owed_makes_all_alike(self):
        """Looks by X and Y, those by Y contrary where it is told so: what is left off the lot is alike but for letters."""
        many = 0
        for turn in range(100):
            guard, chance = flowing(turn, 5), random.Random(turn)
            lot = chance.choice(all_lots(guard.wires)[1:])
            one = longer_flow(chance, guard, lot)
            if one is None:
                continue
            for by in chance.sample(list(product("XY", repeat=len(lot))), min(4, 2 ** len(lot))):
                goal = self.left_by(guard, one[0], by, "+" * len(lot), "+" * len(lot))
                heard = random_heard(chance, len(lot))
                turns, letters = owed(guard, *one, heard)
                came = self.left_by(guard, one[0], by, turns, heard)
                self.assertEqual(came, {flipped(word, letters) for word in goal})
                many += 1
        self.assertGreater(many, 100)

    def left_by(self, guard, wires, by, turns, heard):
        """The words off these wires behind looks at them by these letters, Y with the other sign where turns has -."""
        those, n = oracle_turns.group(guard), guard.wires
        for wire, letter, turn, sign in zip(wires, by, turns, heard):
            word = sign + "I" * wire + letter + "I" * (n - 1 - wire)
            if letter == "Y" and turn == "-":
                word = contrary(word)
            self.assertTrue(any(words_cross(word, its) for its in those))
            those = oracle_turns.group_told(those, word)
        return {word for word in those if misses(word[1:], wires)}

    def test_bases_and_contraries(self):
        for turn in range(50):
            guard, chance = flowing(turn, 5), random.Random(turn)
            for other in (multiplied(chance, guard), opposite(chance, guard)):
                for lot in chance.sample(all_lots(guard.wires), min(6, len(all_lots(guard.wires)))):
                    self.assertEqual(flow(guard, lot)[:1], flow(other, lot)[:1])
                    mine, its = fewest_layers(guard, lot), fewest_layers(other, lot)
                    self.assertEqual((mine[0], len(mine[1])), (its[0], len(its[1])))
                    for wire in lot:
                        self.assertEqual(last(guard, lot, wire)[0], last(other, lot, wire)[0])

    def test_wires_exchanged(self):
        for turn in range(40):
            guard, chance = flowing(turn, 5), random.Random(turn)
            wires = tuple(chance.sample(range(guard.wires), guard.wires))
            other = exchanged(guard, wires)
            for lot in chance.sample(all_lots(guard.wires), min(6, len(all_lots(guard.wires)))):
                along = tuple(sorted(wires.index(wire) for wire in lot))
                told = flow(guard, lot)
                self.assertEqual(told[0], flow(other, along)[0])
                if told[0] == "flow":
                    value = tuple(word[0] + "".join(word[1 + wire] for wire in wires) for word in told[2])
                    its = ("flow", tuple(wires.index(wire) for wire in told[1]), value)
                    self.assertIs(shows_flow(other, along, its), True)
                    mine = owed(guard, *told[1:], "-" * len(lot))
                    its = owed(other, *its[1:], "-" * len(lot))
                    self.assertEqual((mine[0], "".join(mine[1][wire] for wire in wires)), its)
                self.assertEqual(len(fewest_layers(guard, lot)[1]), len(fewest_layers(other, along)[1]))

    def test_values_of_all_kinds(self):
        for guard, lot in ((ROW, (0, 1)), (ROW, (0, 1, 2)), (TWICE, (0, 2)), (NOTHING, (1,))):
            self.check_junk(shows_flow, right_flow, (guard, lot))
            self.check_junk(shows_fewest_layers, right_fewest_layers, (guard, lot))
            self.check_junk(shows_last, right_last, (guard, lot, lot[0]))
            for value in junk():
                for some in (flow(guard, lot), fewest_layers(guard, lot)):
                    for its in ((some[0], value, some[2]), (some[0], some[1], value), (some[0], value, value)):
                        self.check_shows(shows_flow, right_flow, (guard, lot), [its])
                        self.check_shows(shows_fewest_layers, right_fewest_layers, (guard, lot), [its])

    def test_wrong_arguments(self):
        lot = (BadLot, lambda value: is_numbers(value, 3))
        for function, more in ((flow, ()), (fewest_layers, ()), (shows_flow, (0,)), (shows_fewest_layers, (0,))):
            self.check_wrong(function, (ROW, (0, 1)) + more, [None, lot] + [None] * len(more))
        for function, more in ((last, ()), (shows_last, (0,))):
            wire = (NoWire, lambda value: type(value) is int and value in (0, 2))
            self.check_wrong(function, (ROW, (0, 2), 0) + more, [None, lot, wire] + [None] * len(more))
            for value in (1, 3, -1, True, False, "0", None, 0.0, (0,)):
                self.check_refused(function, (ROW, (0, 2), 2) + more, {2: value}, NoWire)
            self.check_refused(function, (ROW, (0, 2), 2) + more, {2: 5}, NoWire)
        for value in ((0, 3), (1, 0), (0, 0), [0], (True,), 0, None, "01", ((0,),)):
            for function, more in ((flow, ()), (last, (0,)), (fewest_layers, ())):
                self.check_refused(function, (ROW, (0,)) + more, {1: value}, BadLot)

    def check_bad_flow(self, guard, wires, words, heard):
        with self.assertRaises(BadFlow, msg=(wires, words)) as caught:
            owed(guard, wires, words, heard)
        self.assertIs(type(caught.exception.value), tuple)
        self.assertEqual(len(caught.exception.value), 2)
        self.assertIs(caught.exception.value[0], wires)
        self.assertIs(caught.exception.value[1], words)

    def test_bad_flows(self):
        wires, words = (0, 1), ("+ZXZ", "+IZX")
        for value in list(near(wires)) + junk():
            if not is_any_flow(ROW, value, words):
                for heard in ("++", "", None, "+"):
                    self.check_bad_flow(ROW, value, words, heard)
        for value in list(near(words)) + junk():
            if not is_any_flow(ROW, wires, value):
                self.check_bad_flow(ROW, wires, value, "++")
            if not is_any_flow(ROW, value, value):
                self.check_bad_flow(ROW, value, value, 0)
        for some in (((1, 0), words), ((1, 0), words[::-1]), ((0, 0), words), ((0, 1), ("-ZXZ", "+IZX")),
                     ((0,), words), ((0, 1), words[:1]),
                     ((True,), ("+IZX",)), ((0, 1), ("+ZXZ", "+ZYY")), ((3,), ("+ZXZ",)), ((-1,), ("+IZX",)),
                     ((2,), ("+ZXI",))):
            self.check_bad_flow(ROW, *some, "++")

    def test_bad_heard(self):
        wires, words = (0, 1), ("+ZXZ", "+IZX")
        for value in junk() + ["+", "+++", "+ ", "+x", "+\n", "+-+", ["+", "-"], ("+", "-"), b"+-", "--+"]:
            if not (type(value) is str and len(value) == 2 and set(value) <= {"+", "-"}):
                self.check_refused(owed, (ROW, wires, words, "++"), {3: value}, BadHeard)
        self.check_refused(owed, (ROW, (), (), ""), {3: "+"}, BadHeard)
        self.check_refused(owed, (ROW, (), (), ""), {3: None}, BadHeard)

    def test_names(self):
        for function, names, args in (
                (last, "guard lot wire", (ROW, (0,), 0)), (shows_last, "guard lot wire value", (ROW, (0,), 0, 0)),
                (flow, "guard lot", (ROW, (0,))), (shows_flow, "guard lot value", (ROW, (0,), 0)),
                (fewest_layers, "guard lot", (ROW, (0,))), (shows_fewest_layers, "guard lot value", (ROW, (0,), 0)),
                (owed, "guard wires words heard", (ROW, (1,), ("+IZX",), "-"))):
            self.check_names(function, names, args)
            self.assertEqual(function.__module__, "guardedwires.flows")
            self.assertIs(getattr(flows, function.__name__), function)
