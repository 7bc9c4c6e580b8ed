"""Section 2: what is told is told again, for equal guards too; it is of tuples, and no guard is changed."""

import inspect
import random
import unittest

from guardedwires import (choosing, counting, fewest, flows, holders, journals, knobs, looks, mending, nets, offers, reading,
                          sharing, steering, turning, wirework, wishes)
from guardedwires.frames import frame
from guardedwires.guards import Guard, group
from guardedwires.machine import Machine
from tests.checking import opposite, random_guard, turned_pairs
from tests.oracle import all_letters, all_lots
from tests.oracle_sides import all_nets
from tests.test_choosing import some_case
from tests.test_flows import flowing
from tests.test_knobs import liked_row, near_row, random_row
from tests.test_looks import some_looks
from tests.test_reading import any_looks

INTERFACE = {
    counting: "of_group, of_passing, other_row, by_lots",
    mending: "mended, shows_mended, best_table, shows_best_table, answered, most_mended, shows_most_mended, two_faults, "
             "shows_two_faults",
    looks: "foretold, looked, read, went, along, gone",
    fewest: "absent_and_crossing, fewest, shows_fewest, numbers, flips, shows_flips",
    steering: "turned_by, shows_turned_by, steer, shows_steer",
    reading: "behind, reads, shows_reads, first_reading, read_alike, shows_read_alike",
    holders: "told_on, shows_told_on, can_tell, least_holders, blind_holders",
    sharing: "shared, brought, shows_brought",
    nets: "net_guard, as_net, shows_as_net, cut, cuts",
    turning: "turned, one_net, shows_one_net, all_turned, fewest_ties, shows_fewest_ties, looked_net, shows_looked_net",
    flows: "last, shows_last, flow, shows_flow, fewest_layers, shows_fewest_layers, owed",
    knobs: "working, quarter_turned, same_row, shows_same_row, depth, shows_depth",
    wirework: "keeps, shows_keeps, kept_turns, shows_kept_turns, done_by, work, shows_work",
    offers: "choices, by",
    wishes: "comes_true",
    choosing: "cheapest, shows_cheapest",
    journals: "journal, read_journal",
}


def calls(turn):
    """(module, name of a function that shows what is told, arguments), for one that is there, and for all others."""
    chance = random.Random(turn)
    n = 3 + turn % 2
    guard = random_guard(chance, n, 1 + turn % 2)
    goal, full = random_guard(chance, n, len(guard)), random_guard(chance, n, n)
    lot, side = chance.choice(all_lots(n)), (0, 1 + turn % 2)
    faults = tuple(sorted(chance.sample(sorted(all_letters(n)), 5)))
    pairs, other = turned_pairs(chance, guard), turned_pairs(chance, guard)
    kept, seen, any_ones = pairs[0][1], some_looks(chance, guard, 3), any_looks(chance, guard, 3)
    net = chance.choice(all_nets(4))
    parts = tuple((wire,) for wire in range(n))[:2] + (tuple(range(2, n)),)
    yield from [(counting, "of_group", (guard,)), (counting, "of_passing", (guard,)), (counting, "by_lots", (guard,)),
                (counting, "other_row", (counting.of_passing(guard),)),
                (mending, "mended", (guard, faults)), (mending, "best_table", (guard, faults, (1, 2, 3, 4, 5))),
                (mending, "answered", (guard, mending.best_table(guard, faults, (0,) * 5)[1], faults[1])),
                (mending, "most_mended", (guard,)), (mending, "two_faults", (guard, turn % n)),
                (looks, "foretold", (guard, faults[0])), (looks, "looked", (guard, seen[0])),
                (looks, "read", (guard, kept)), (looks, "went", (guard, pairs, seen[0])),
                (looks, "along", (guard, seen)), (looks, "gone", (guard, pairs, seen)),
                (fewest, "absent_and_crossing", (guard, goal)), (fewest, "fewest", (guard, goal)),
                (fewest, "numbers", (guard, goal, seen)), (fewest, "flips", (guard, opposite(chance, guard))),
                (steering, "turned_by", (guard, pairs, kept)), (steering, "steer", (guard, pairs, other)),
                (reading, "behind", (guard, any_ones)), (reading, "reads", (guard, any_ones)),
                (reading, "first_reading", (guard, any_ones)), (reading, "read_alike", (guard, any_ones, seen)),
                (holders, "told_on", (guard, lot)), (holders, "can_tell", (guard, parts, (0, 1))),
                (holders, "least_holders", (guard, parts)), (holders, "blind_holders", (guard, parts)),
                (sharing, "shared", (guard, side)), (sharing, "brought", (guard, side)),
                (nets, "net_guard", (4, net)), (nets, "as_net", (full,)), (nets, "cut", (4, net, (0, 2))),
                (nets, "cuts", (4, net))]
    yield from net_calls(chance, net)
    yield from flow_calls(chance, turn)
    yield from kept_calls(chance, guard, pairs)
    yield from choice_calls(turn)


def net_calls(chance, net):
    other = chance.choice([chance.choice(all_nets(4)), turning.all_turned(4, net)[-1]])
    yield from [(turning, "turned", (4, net, 2)), (turning, "one_net", (4, net, other)), (turning, "all_turned", (4, net)),
                (turning, "fewest_ties", (4, net)), (turning, "looked_net", (4, net, 1, chance.choice(["+X", "+Y", "-Z"])))]


def flow_calls(chance, turn):
    guard = flowing(turn)
    lot = tuple(range(guard.wires))
    yield from [(flows, "last", (guard, lot, 0)), (flows, "flow", (guard, lot)), (flows, "fewest_layers", (guard, lot)),
                (flows, "flow", (guard, lot[1:])), (flows, "owed", (guard, (), (), ""))]


def kept_calls(chance, guard, pairs):
    row, words = random_row(chance, guard, 5), [word for pair in pairs for word in pair]
    other = near_row(chance, guard, liked_row(chance, guard, row))
    wish = tuple((number,) for number in range(len(words)))
    yield from [(knobs, "working", (guard, row)), (knobs, "quarter_turned", (guard, row, tuple(sorted(dict(row))), words[0])),
                (knobs, "same_row", (guard, row, other)), (knobs, "depth", (guard, row)),
                (wirework, "keeps", (guard, tuple(chance.choice(wirework.TURNS) for _ in range(guard.wires)))),
                (wirework, "kept_turns", (guard,)), (wirework, "done_by", (guard, pairs, ("XYZ",) * guard.wires)),
                (wirework, "work", (guard, pairs, wish)), (wirework, "work", (guard, pairs, wish[1::-1] + wish[2:]))]


def choice_calls(turn):
    guard, bids, wanted = some_case(turn)
    machine = Machine(guard)
    machine.lose((0,))
    yield from [(offers, "choices", (guard, bids)), (offers, "by", (guard, offers.choices(guard, bids)[-1])),
                (wishes, "comes_true", (guard, wanted[0])), (choosing, "cheapest", (guard, bids, wanted)),
                (journals, "journal", (machine,)), (journals, "read_journal", (journals.journal(machine),))]


def other_object(value):
    """An equal value, another object where it is a Guard or a Machine."""
    if isinstance(value, Machine):
        return value.copy()
    return Guard(value.text) if isinstance(value, Guard) else value


def guards_told(values):
    """What is told of those that are Guards or Machines."""
    told = [(value.text, value.wires, value.words, value.kept) for value in values if isinstance(value, Guard)]
    return told + [(value.first.text, value.marks, value.done) for value in values if isinstance(value, Machine)]


def kinds_in(value):
    if isinstance(value, tuple):
        return {kind for part in value for kind in kinds_in(part)} | {tuple}
    return {type(value)}


class Twice(unittest.TestCase):

    def test_each_name_is_called(self):
        told = {(module, name) for module, name, _ in calls(0)}
        shown = {(module, "shows_" + name) for module, name in told if hasattr(module, "shows_" + name)}
        wanted = {(module, name) for module, names in INTERFACE.items() for name in names.split(", ")}
        self.assertEqual(told | shown, wanted)
        for module, name in wanted:
            self.assertEqual(getattr(module, name).__module__, module.__name__)
            self.assertTrue(inspect.isfunction(getattr(module, name)))

    def test_told_again(self):
        for turn in range(24):
            for module, name, args in calls(turn):
                function = getattr(module, name)
                ahead = guards_told(args)
                value = function(*args)
                self.assertEqual(value, function(*args))
                self.assertEqual(value, function(*[other_object(part) for part in args]))
                self.assertEqual(guards_told(args), ahead)
                self.assertLessEqual(kinds_in(value), {tuple, int, str, bool, type(None), Guard, Machine}, name)

    def test_what_was_told_is_shown(self):
        for turn in range(24):
            for module, name, args in calls(turn):
                shows = getattr(module, "shows_" + name, None)
                if shows is not None:
                    value = getattr(module, name)(*args)
                    for _ in range(2):
                        self.assertIs(shows(*args, value), True)
                        self.assertIs(shows(*[other_object(part) for part in args], value), True)
                        self.assertIs(shows(*args, (value, value)), False)
                        self.assertIs(shows(*args, list(value) if value else 0), False)

    def test_what_was_told_is_handed_in_again(self):
        for turn in range(24):
            chance = random.Random(turn)
            guard, goal = random_guard(chance, 4, 2), random_guard(chance, 4, 2)
            few = fewest.fewest(guard, goal)[1]
            self.assertEqual(fewest.numbers(guard, goal, few)[-1], 0)
            self.assertEqual(fewest.fewest(looks.along(guard, few), goal), (0, ()))
            pairs = frame(guard)
            there, later = steering.turned_by(guard, pairs, pairs[0][0])
            steered = steering.steer(guard, later, pairs)
            came = looks.gone(guard, pairs, there + steered)
            self.assertIs(steering.shows_steer(guard, pairs, came, there + steered), True)
            self.assertIs(steering.shows_steer(guard, came, pairs, steering.steer(guard, came, pairs)), True)
            row = counting.of_group(guard)
            self.assertEqual(counting.other_row(counting.other_row(row)), row)
            faults = tuple(sorted(chance.sample(sorted(all_letters(4)), 4)))
            table = mending.best_table(guard, faults, (1, 0, 2, 999))[1]
            self.assertNotIn(("none",), [mending.answered(guard, table, letters) for letters in faults])
            offered, bids, wanted = some_case(turn)
            told = choosing.cheapest(offered, bids, wanted)
            if told[0] == "choice":
                came = offers.by(offered, told[2])
                self.assertTrue(all(wishes.comes_true(came, wish) for wish in wanted))
                self.assertEqual(choosing.cheapest(came, (("look", group(came)[-1], 99),), wanted), ("choice", 0, (), ()))
            net, gates = nets.as_net(random_guard(chance, 4, 4))
            self.assertEqual(nets.as_net(nets.net_guard(4, net)), (net, ()))
            self.assertIsInstance(gates, tuple)


if __name__ == "__main__":
    unittest.main()
