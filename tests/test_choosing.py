"""Section 26: the cheapest choice."""

import random

from guardedwires import choosing
from guardedwires.choosing import cheapest, shows_cheapest
from guardedwires.errors import BadOffers, BadWishes
from guardedwires.guards import Guard
from guardedwires.offers import by, choices
from guardedwires.wishes import comes_true
from tests.checking import Checking, junk, multiplied, near, random_guard, some_guard, some_near
from tests.oracle_turns import is_offers, is_wish, right_cheapest
from tests.test_offers import BIDS, FOUR, random_offers
from tests.test_wishes import random_wish

WISHES = (("keeps", 1), ("told", "-IIXX"))
BELL = Guard("wires 2\nguard +XX")


def is_wishes(guard, value):
    return type(value) is tuple and 1 <= len(value) <= 3 and all(is_wish(guard, wish) for wish in value)


def some_case(turn, most=4):
    """(guard, offers, wishes): the wishes are of guards by these offers, often."""
    chance = random.Random(turn)
    guard = some_guard(turn, most)
    offers = random_offers(chance, guard, 1 + chance.randrange(4))
    goal = by(guard, chance.choice(choices(guard, offers)))
    wishes = [random_wish(chance, goal if chance.random() < 0.7 else guard) for _ in range(30)]
    true = [wish for wish in wishes if comes_true(goal, wish)] or wishes
    picked = [chance.choice(true if chance.random() < 0.8 else wishes) for _ in range(1 + chance.randrange(3))]
    return guard, offers, tuple(picked)


class Choosing(Checking):

    def test_cheapest(self):
        found = set()
        for turn in range(200):
            args = some_case(turn)
            told = cheapest(*args)
            self.assertTrue(right_cheapest(*args, told), (args[0].text, args[1:], told))
            self.assertIs(shows_cheapest(*args, told), True)
            if turn % 6 == 0:
                self.check_told(cheapest, shows_cheapest, right_cheapest, args, [], most=60)
            found.add((told[0], min(len(told[-1]), 3)))
        self.assertLessEqual({("choice", many) for many in range(4)} | {("none", many) for many in (2, 3)}, found)
        self.assertEqual(cheapest(BELL, (("look", "-XX", 1),), (("told", "-XX"),)), ("none", (((), 0),)))

    def test_going_through_all(self):
        for turn in range(80):
            guard, offers, wishes = some_case(turn)
            told = cheapest(guard, offers, wishes)
            able = [choice for choice in choices(guard, offers) if all(comes_true(by(guard, choice),
                    wish) for wish in wishes)]
            if told[0] == "none":
                self.assertEqual(able, [])
                self.assertEqual([choice for choice, _ in told[1]], list(choices(guard, offers)))
            else:
                self.assertEqual(told[2], able[0])
                self.assertEqual(told[1], sum(offer[2] for offer in told[2]))
                self.assertEqual(told[1], min(sum(offer[2] for offer in choice) for choice in able))
                self.assertEqual(tuple(choice for choice, _ in told[3]), choices(guard, offers)[:len(told[3])])

    def test_any_reason(self):
        """Of each choice ahead any wish that does not come true by it may be told, and no other one."""
        for turn in range(60):
            guard, offers, wishes = some_case(turn)
            told = cheapest(guard, offers, wishes)
            for place, (choice, _) in enumerate(told[-1]):
                for number in range(-1, 4):
                    reasons = told[-1][:place] + ((choice, number),) + told[-1][place + 1:]
                    value = told[:-1] + (reasons,)
                    wrong = 0 <= number < len(wishes) and not comes_true(by(guard, choice), wishes[number])
                    self.assertIs(shows_cheapest(guard, offers, wishes, value), wrong)

    def test_values_near_to_the_right_one(self):
        for args in ((FOUR, BIDS, WISHES), (FOUR, BIDS, (("keeps", 3),)),
                     (BELL, (("look", "-ZZ", 99),), (("told", "+XX"),))):
            self.check_shows(shows_cheapest, right_cheapest, args, some_near(cheapest(*args), 900))

    def test_no_offer_is_wanted(self):
        self.assertEqual(cheapest(FOUR, BIDS, (("keeps", 2),)), ("choice", 0, (), ()))
        self.assertEqual(cheapest(FOUR, BIDS, (("keeps", 2),) * 3), ("choice", 0, (), ()))
        every = (("look", "+XIII", 1), ("look", "+ZIII", 1))
        self.assertEqual(cheapest(FOUR, every, (("keeps", 6),))[0], "none")
        told = cheapest(Guard("wires 2"), (("look", "+XX", 99), ("look", "+ZZ", 99)),
                        (("keeps", 0), ("told", "-YY"), ("nothing", (0,))))
        self.assertEqual(told[:2], ("choice", 198))
        self.assertEqual([number for _, number in told[3]], [1, 1, 1])

    def test_six_wires(self):
        for turn in range(12):
            chance = random.Random(turn)
            guard = random_guard(chance, 6, turn % 7)
            offers = random_offers(chance, guard, 2)
            wishes = tuple(random_wish(chance, guard) for _ in range(2))
            told = cheapest(guard, offers, wishes)
            self.assertTrue(right_cheapest(guard, offers, wishes, told))

    def test_bases(self):
        for turn in range(40):
            chance = random.Random(turn)
            guard, offers, wishes = some_case(turn)
            if not any(offer[0] == "leave" for offer in offers):
                other = multiplied(chance, guard)
                self.assertEqual(cheapest(guard, offers, wishes), cheapest(other, offers, wishes))

    def test_values_of_all_kinds(self):
        for args in ((BELL, (("look", "-ZZ", 9),), (("told", "-ZZ"),)), (BELL, (("look", "-XX", 1),), (("keeps", 2),))):
            self.check_junk(shows_cheapest, right_cheapest, args)
            told = cheapest(*args)
            for value in junk():
                its = [told[:place] + (value,) + told[place + 1:] for place in range(len(told))]
                its += [told[:-1] + (told[-1][:-1] + ((told[-1][-1][0], value),),),
                        told[:-1] + (told[-1][:-1] + ((value, 0),),)]
                self.check_shows(shows_cheapest, right_cheapest, args, its)

    def test_wrong_arguments(self):
        offers = (BadOffers, lambda value: is_offers(FOUR, value))
        wishes = (BadWishes, lambda value: is_wishes(FOUR, value))
        self.check_wrong(cheapest, (FOUR, BIDS, WISHES), [None, offers, wishes])
        self.check_wrong(shows_cheapest, (FOUR, BIDS, WISHES, 0), [None, offers, wishes, None])
        for value in [(), list(WISHES), (("keeps", 1),) * 4, ("keeps", 1), (("keeps", 7),), (["keeps", 1],),
                      (("lost", ()),)] + list(near(WISHES)):
            if not is_wishes(FOUR, value):
                self.check_refused(cheapest, (FOUR, BIDS, WISHES), {2: value}, BadWishes)
                self.check_refused(cheapest, (FOUR, BIDS, WISHES), {1: (), 2: value}, BadOffers)

    def test_names(self):
        self.check_names(cheapest, "guard offers wishes", (FOUR, BIDS, WISHES))
        self.check_names(shows_cheapest, "guard offers wishes value", (FOUR, BIDS, WISHES, 0))
        for function in (cheapest, shows_cheapest):
            self.assertEqual(function.__module__, "guardedwires.choosing")
            self.assertIs(getattr(choosing, function.__name__), function)
