"""Section 25: offers, and the guards by choices of them."""

import random

from guardedwires import offers as offers_module
from guardedwires.errors import BadChoice, BadOffers
from guardedwires.guards import Guard, exchanged, group
from guardedwires.offers import by, choices
from tests import oracle_turns
from tests.checking import (Checking, all_guards, guard_of, junk, multiplied, near, random_gates, random_guard,
                            random_word, some_guard)
from tests.oracle import all_gates, some_of
from tests.oracle_guards import kept_words
from tests.oracle_turns import group_by, is_offers

FOUR = Guard("wires 4\nguard +XXXX\nguard +ZZZZ")
BIDS = (("leave", 1, 3), ("look", "+XXII", 2), ("look", "-IIXX", 2))


def random_offer(chance, guard):
    kind = chance.choice(["gate", "leave", "look"] if len(guard) else ["gate", "look"])
    price = chance.choice([1, 2, 2, 3, 50, 99])
    if kind == "gate":
        return ("gate", random_gates(chance, guard.wires, 1)[0], price)
    if kind == "leave":
        return ("leave", chance.randrange(len(guard)), price)
    words = sorted(kept_words(guard)) or sorted(group(guard))
    return ("look", chance.choice([random_word(chance, guard.wires), chance.choice(words)]), price)


def random_offers(chance, guard, many):
    found = {}
    while len(found) < many:
        offer = random_offer(chance, guard)
        found[offer[:2]] = offer
    return tuple(sorted(found.values()))


class Offers(Checking):

    def test_choices(self):
        counting = set()
        for turn in range(150):
            chance = random.Random(turn)
            guard = some_guard(turn)
            offers = random_offers(chance, guard, 1 + turn % 4)
            told = choices(guard, offers)
            self.assertEqual(told, oracle_turns.choices(guard, offers))
            self.assertEqual(told[0], ())
            self.assertLessEqual(set(told), {tuple(offers[k] for k in numbers) for numbers in some_of(offers)})
            counting.add((len(offers), len(told) == 2 ** len(offers)))
        self.assertLessEqual({(1, True), (1, False), (2, True), (2, False), (3, True), (4, True), (4, False)}, counting)

    def test_the_sequence(self):
        """By price, then by how many offers, then as tuples."""
        guard = Guard("wires 2")
        offers = (("gate", "h 0", 2), ("gate", "h 1", 1), ("look", "+XI", 1), ("look", "+ZZ", 2))
        told = choices(guard, offers)
        rows = [(sum(offer[2] for offer in choice), len(choice), choice) for choice in told]
        self.assertEqual(rows, sorted(rows))
        self.assertEqual(told[:5], ((), (offers[1],), (offers[2],), (offers[0],), (offers[3],)))
        self.assertEqual(told[5], (offers[1], offers[2]))
        many = tuple(("gate", f"x {wire}", 99) for wire in range(4))
        self.assertEqual([len(choice) for choice in choices(FOUR, many)], [0] + [1] * 4 + [2] * 6 + [3] * 4 + [4])

    def test_what_counts(self):
        one = Guard("wires 1\nguard +Z")
        self.assertEqual(choices(one, (("look", "-Z", 1),)), ((),))
        self.assertEqual(choices(one, (("gate", "x 0", 1), ("look", "-Z", 1))),
                         ((), (("gate", "x 0", 1),), (("gate", "x 0", 1), ("look", "-Z", 1))))
        self.assertEqual(choices(one, (("leave", 0, 1), ("look", "-Z", 1)))[1:],
                         ((("leave", 0, 1),), (("leave", 0, 1), ("look", "-Z", 1))))
        # The looks stand as tuples do: +X is looked at ahead of -X and of +Z.
        self.assertEqual(len(choices(one, (("look", "+X", 1), ("look", "-X", 1)))), 3)
        self.assertEqual(len(choices(one, (("look", "+X", 1), ("look", "-Z", 1)))), 3)
        self.assertEqual(by(one, (("look", "+X", 1), ("look", "-Z", 1))).words, ("-Z",))
        self.assertEqual(choices(Guard("wires 1"), (("look", "-I", 1),)), ((),))
        self.assertEqual(len(choices(Guard("wires 1"), (("look", "+I", 1),))), 2)

    def test_by(self):
        for turn in range(200):
            chance = random.Random(turn)
            guard = some_guard(turn)
            offers = random_offers(chance, guard, 1 + turn % 4)
            for numbers in some_of(offers):
                choice = tuple(offers[k] for k in numbers)
                those = group_by(guard, choice)
                if those is None:
                    self.check_refused(by, (guard, ()), {1: choice}, BadChoice)
                else:
                    told = by(guard, choice)
                    self.assertIsInstance(told, Guard)
                    self.assertEqual((told.wires, frozenset(group(told))), (guard.wires, those))
        self.assertEqual(group(by(FOUR, ())), group(FOUR))

    def test_the_sequence_of_what_is_done(self):
        """Gates come first, then words are left, all at once, by the numbers that they had; then it is looked."""
        guard = guard_of(3, ("+ZII", "+IZI", "+IIZ"))
        self.assertEqual(by(guard, (("leave", 0, 1), ("leave", 1, 1))).words, ("+IIZ",))
        self.assertEqual(by(guard, (("leave", 0, 1), ("leave", 1, 1), ("leave", 2, 1))).words, ())
        self.assertEqual(group(by(guard, (("gate", "h 0", 1), ("leave", 1, 1)))), group(guard_of(3, ("+XII", "+IIZ"))))
        self.assertEqual(group(by(guard, (("gate", "h 0", 1), ("look", "-ZII", 1)))),
                         group(guard_of(3, ("-ZII", "+IZI", "+IIZ"))))
        both = (("gate", "h 0", 1), ("gate", "s 0", 1))
        self.assertEqual(by(Guard("wires 1\nguard +Z"), both).words, ("+Y",))
        # The word of a look is not led by gates.
        self.assertIn("+XII", by(guard, (("gate", "h 1", 1), ("look", "+XII", 1))))

    def test_kept_and_seen_looks(self):
        self.assertEqual(by(FOUR, (("look", "+XXII", 1),)).kept, 1)
        self.assertEqual(by(FOUR, (("look", "+XXII", 1), ("look", "+ZIII", 1))).kept, 1)
        self.assertIn("-IIXX", by(FOUR, (("look", "-XXII", 5),)))
        self.assertEqual(by(FOUR, (("look", "+XXXX", 1),)).kept, 2)
        self.assertEqual(by(FOUR, (("leave", 0, 1), ("leave", 1, 1))).kept, 4)

    def test_six_wires(self):
        for turn in range(20):
            chance = random.Random(turn)
            guard = random_guard(chance, 6, turn % 7)
            offers = random_offers(chance, guard, 2)
            for choice in choices(guard, offers):
                self.assertEqual(frozenset(group(by(guard, choice))), group_by(guard, choice))

    def test_bases(self):
        """Where no word is left, all hangs on the group alone."""
        for turn in range(40):
            chance = random.Random(turn)
            guard = some_guard(turn)
            offers = random_offers(chance, Guard(f"wires {guard.wires}"), 1 + turn % 4)
            other = multiplied(chance, guard)
            self.assertEqual(choices(guard, offers), choices(other, offers))
            for choice in choices(guard, offers):
                self.assertEqual(group(by(guard, choice)), group(by(other, choice)))

    def test_wires_exchanged(self):
        for turn in range(40):
            chance = random.Random(turn)
            guard = random_guard(chance, 4, turn % 5)
            wires = tuple(chance.sample(range(4), 4))
            choice = tuple(offer for offer in random_offers(chance, guard, 2) if offer[0] != "gate")
            along = tuple(sorted((name,
                                  what if name == "leave" else what[0] + "".join(what[1 + wire] for wire in wires),
                                  price)
                                 for name, what, price in choice))
            if len([1 for offer in choice if offer[0] == "look"]) < 2 and group_by(guard, choice) is not None:
                self.assertEqual(group(exchanged(by(guard, choice), wires)), group(by(exchanged(guard, wires), along)))

    def test_prices(self):
        for price in (1, 99):
            self.assertEqual(len(choices(FOUR, (("leave", 0, price),))), 2)
            by(FOUR, (("leave", 0, price),))
        for price in (0, 100, -1, True, "1", 1.0, None, (1,)):
            self.check_refused(choices, (FOUR, BIDS), {1: (("leave", 0, price),)}, BadOffers)
            self.check_refused(by, (FOUR, ()), {1: (("leave", 0, price),)}, BadChoice)

    def test_all_gates_and_words(self):
        for gate in sorted(all_gates(2)):
            self.assertEqual(len(choices(Guard("wires 2"), (("gate", gate, 1),))), 2)
        for guard in all_guards(1):
            for word in ("+I", "-I", "+X", "-X", "+Y", "-Y", "+Z", "-Z"):
                offers = (("look", word, 7),)
                self.assertEqual(choices(guard, offers), oracle_turns.choices(guard, offers))

    def test_wrong_arguments(self):
        self.check_wrong(choices, (FOUR, BIDS), [None, (BadOffers, lambda value: is_offers(FOUR, value))])
        self.check_wrong(by, (FOUR, BIDS[:2]), [None, (BadChoice, lambda value: value == () and type(value) is tuple)])
        bad = [(), BIDS[::-1], list(BIDS), BIDS + BIDS, (("leave", 2, 1),), (("leave", True, 1),), (("leave", -1, 1),),
               (("leave", "0", 1),),
               (("look", "XXII", 1),), (("look", "+XX", 1),), (("gate", "h 4", 1),), (("gate", "h  0", 1),),
               (("gate", ("h 0",), 1),),
               (("gate", "h 0", 1), ("gate", "h 0", 2)), (("leave", 0, 1), ("leave", 0, 1)), (("stay", 0, 1),),
               (("look", "+XXII"),),
               (["look", "+XXII", 1],), ("look", "+XXII", 1), (("look", "+XXII", 1, 1),), (("LOOK", "+XXII", 1),),
               (("leave", 1, 1), ("leave", 0, 1)),
               (("look", "+XXII", 1), ("leave", 0, 1)),
               tuple(("gate", gate, 1) for gate in ("h 0", "h 1", "h 2", "h 3", "s 0"))]
        for value in bad + list(near(BIDS)):
            if not is_offers(FOUR, value):
                self.check_refused(choices, (FOUR, BIDS), {1: value}, BadOffers)
                if value != () or type(value) is not tuple:
                    self.check_refused(by, (FOUR, ()), {1: value}, BadChoice)
        self.check_refused(by, (FOUR, ()), {1: BIDS[1:]}, BadChoice)
        self.check_refused(by, (Guard("wires 1"), ()), {1: (("leave", 0, 1),)}, BadChoice)
        for value in junk():
            self.check_refused(choices, (FOUR, BIDS), {1: (value,)}, BadOffers)
            for name in ("gate", "leave", "look"):
                for its in ((name, value, 1), (name, "+XXII", value), (value, 0, 1), (name, value, value)):
                    if not is_offers(FOUR, (its,)):
                        self.check_refused(choices, (FOUR, BIDS), {1: (its,)}, BadOffers)

    def test_names(self):
        for function, names, args in ((choices, "guard offers", (FOUR, BIDS)), (by, "guard choice", (FOUR, ()))):
            self.check_names(function, names, args)
            self.assertEqual(function.__module__, "guardedwires.offers")
            self.assertIs(getattr(offers_module, function.__name__), function)
