"""Section 15: the fewest looks."""

import random

from guardedwires import fewest as module
from guardedwires.errors import BadLooks, Never, OtherLetters, OtherMany, OtherWires, Reads
from guardedwires.fewest import absent_and_crossing, fewest, flips, numbers, shows_fewest, shows_flips
from guardedwires.guards import Guard, group, led_guard, same_group
from guardedwires.looks import along
from tests import oracle_looks
from tests.checking import (Checking, all_guards, guard_of, multiplied, near, opposite, random_gates, random_guard,
                            some_guard)
from tests.oracle import all_words, contrary, led
from tests.oracle_guards import group_letters, group_of
from tests.oracle_looks import all_went, group_behind, is_looks, kind_by, right_fewest, right_flips
from tests.test_looks import some_looks

Z, X = Guard("wires 1\nguard +Z"), Guard("wires 1\nguard +X")


def some_goal(chance, guard):
    """A guard of as many words: any one, or a near one."""
    other = random_guard(chance, guard.wires, len(guard))
    kind = chance.randrange(4)
    if kind == 0:
        return opposite(chance, multiplied(chance, guard))
    if kind == 1:
        return led_guard(guard, random_gates(chance, guard.wires, 2))
    if kind == 2:
        return along(guard, some_looks(chance, guard, 2))
    return other


def fewest_by_search(first, n):
    """From a group, as a set: for each group how many looks at seen words are wanted at least."""
    far = {first: 0}
    ahead = [first]
    while ahead:
        later = []
        for those in ahead:
            for word in sorted(all_words(n)):
                if kind_by(those, word) == "seen":
                    behind = group_behind(those, word)
                    if behind not in far:
                        far[behind] = far[those] + 1
                        later.append(behind)
        ahead = later
    return far


class Fewest(Checking):

    def test_absent_and_crossing(self):
        for turn in range(150):
            guard = some_guard(turn)
            goal = some_goal(random.Random(turn), guard)
            told = absent_and_crossing(guard, goal)
            self.assertEqual(told, oracle_looks.absent_and_crossing(guard, goal))
            self.assertEqual({type(part) for part in told}, {int})
        self.assertEqual(absent_and_crossing(Guard("wires 2"), Guard("wires 2")), (0, 0))
        bell = Guard("wires 2\nguard +XX\nguard +ZZ")
        for words, wanted in ((("+YY", "-XX"), (1, 0)), (("-YY", "+XX"), (0, 0)), (("+XI", "+IX"), (1, 1)),
                              (("+XI", "-IX"), (2, 1)), (("+XI", "+IZ"), (2, 2))):
            self.assertEqual(absent_and_crossing(bell, guard_of(2, words)), wanted)

    def test_fewest(self):
        told = []
        for turn in range(150):
            guard = some_guard(turn)
            chance = random.Random(turn)
            goal = some_goal(chance, guard)
            others = [(told[-1][0], told[-1][1])] if told else []
            value = self.check_told(fewest, shows_fewest, right_fewest, (guard, goal), others, most=25)
            self.assertEqual(same_group(along(guard, value[1]), goal), ("same",))
            told.append(value)
        self.assertTrue({0, 1, 2, 3, 4} <= {value[0] for value in told})

    def test_fewer_never_do(self):
        for n, many, step in ((1, 1, 1), (2, 1, 7), (2, 2, 9), (3, 1, 41)):
            guards = [guard for guard in some_of_each_group(n, many)]
            for guard in guards[::step]:
                far = fewest_by_search(frozenset(group(guard)), n)
                self.assertEqual(len(far), len(guards))
                for goal in guards[::1 if n < 3 else 5]:
                    number, looks = fewest(guard, goal)
                    self.assertEqual(number, far[frozenset(group(goal))])
                    self.assertEqual(len(looks), number)

    def test_each_look_lowers_the_number_by_one_at_most(self):
        for turn in range(60):
            guard = some_guard(turn)
            goal = some_goal(random.Random(turn), guard)
            ahead = numbers(guard, goal, ())[0]
            for word in sorted(all_words(guard.wires))[::7]:
                if kind_by(set(group(guard)), word) == "seen":
                    self.assertGreaterEqual(numbers(guard, goal, (word,))[1], ahead - 1)

    def test_all_ways_of_two_looks(self):
        for guard, goal in ((Z, Guard("wires 1\nguard -Z")), (Guard("wires 2\nguard +ZI"), Guard("wires 2\nguard +IZ"))):
            every = sorted(all_words(guard.wires))
            values = [(2, (one, other)) for one in every for other in every]
            self.check_shows(shows_fewest, right_fewest, (guard, goal), values)
            shown = [value for value in values if shows_fewest(guard, goal, value)]
            self.assertTrue(0 < len(shown) < len(values))
            self.assertTrue(all(value[1][1] in group(goal) for value in shown))

    def test_looks_of_more_wires_words_and_ways(self):
        self.assertIs(shows_fewest(Z, X, (1, ("+X",))), True)
        for value in ((1, ("-X",)), (True, ("+X",)), (1, ["+X"]), [1, ("+X",)], (1, "+X"), (2, ("+X", "+X")), (1, ()),
                      (1, ("+X", "+X")), (3, ("+X", "+Z", "+X")), (1, ("X",)), (1, ("+XX",)), (1, ("+Z",)), (0, ())):
            self.assertIs(shows_fewest(Z, X, value), False, value)
        for looks in (("+X", "+Z", "+X"), ("+Y", "+X")):
            self.assertIs(shows_fewest(Z, X, (1, looks)), False)
            self.assertIs(shows_fewest(Z, X, (len(looks), looks)), False)
        self.assertIs(shows_fewest(Z, Z, (0, ())), True)
        self.assertIs(shows_fewest(Z, Z, (False, ())), False)
        # A look at a word of the group is none of a seen word.
        self.assertIs(shows_fewest(Z, Guard("wires 1\nguard -Z"), (2, ("+Z", "+X"))), False)

    def test_nothing_is_read_however_answers_fall(self):
        for turn in range(60):
            chance = random.Random(turn)
            guard = some_guard(turn)
            looks = fewest(guard, some_goal(chance, guard))[1]
            heard = tuple(chance.choice((word, contrary(word))) for word in looks)
            self.assertIsNone(all_went(guard.words, (), heard)[2])

    def test_much_that_is_absent_and_does_not_cross(self):
        for words, goal in ((("+ZIII", "+IZII"), ("+IIZI", "+IIIZ")), (("+ZIII", "+IZII"), ("-ZIII", "+IIIZ")),
                            (("+XXII", "+ZZII"), ("-IIXX", "+IIZZ")), (("+ZII", "+IZI"), ("-ZII", "+IIZ"))):
            n = len(words[0]) - 1
            for turn in range(12):
                gates = random_gates(random.Random(turn), n, 8)
                mine = multiplied(random.Random(turn), led_guard(guard_of(n, words), gates))
                its = multiplied(random.Random(turn + 1), led_guard(guard_of(n, goal), gates))
                self.assertEqual(absent_and_crossing(mine, its), (2, 0))
                told = fewest(mine, its)
                self.assertTrue(right_fewest(mine, its, told))
                self.assertIs(shows_fewest(mine, its, told), True)

    def test_numbers(self):
        for turn in range(80):
            chance = random.Random(turn)
            guard = some_guard(turn)
            goal = some_goal(chance, guard)
            looks = some_looks(chance, guard, turn % 5)
            wanted = [oracle_looks.looks_left(along(guard, looks[:k]), goal) for k in range(len(looks) + 1)]
            self.assertEqual(numbers(guard, goal, looks), tuple(wanted))
            number, few = fewest(guard, goal)
            self.assertEqual(numbers(guard, goal, few), tuple(range(number, -1, -1)))

    def test_numbers_of_looks_that_are_refused(self):
        guard = Guard("wires 2\nguard +ZI")
        goal = Guard("wires 2\nguard +IZ")
        self.assertEqual(numbers(guard, goal, ("+ZI", "+XX", "+XX", "+IZ")), (2, 2, 1, 1, 0))
        for looks, error, number in ((("-ZI",), Never, 0), (("+IZ",), Reads, 0), (("+XX", "-XX"), Never, 1),
                                     (("+XX", "+IZ", "+XI"), Reads, 2), (("+ZI", "+XX", "+YY"), Reads, 2)):
            with self.assertRaises(error) as caught:
                numbers(guard, goal, looks)
            self.assertEqual(caught.exception.value, number)
            self.assertIs(type(caught.exception.value), int)

    def test_flips(self):
        for turn in range(120):
            guard = some_guard(turn)
            chance = random.Random(turn)
            goal = opposite(chance, multiplied(chance, guard))
            others = [tuple(chance.choice("xz") + f" {chance.randrange(guard.wires)}" for _ in range(3)) for _ in range(4)]
            self.check_told(flips, shows_flips, right_flips, (guard, goal), others, most=40)
        self.assertIs(shows_flips(Z, Guard("wires 1\nguard -Z"), ("x 0",)), True)
        for value in (("x 0", "x 0", "x 0"), ("h 0", "z 0", "h 0"), ["x 0"], (), ("z 0",), ("x 1",), "x 0", ("y 0",)):
            self.assertIs(shows_flips(Z, Guard("wires 1\nguard -Z"), value), False, value)
        self.assertIs(shows_flips(Z, Z, ()), True)
        self.assertIs(shows_flips(Z, Z, ("z 0",)), True)

    def test_other_letters(self):
        for turn in range(80):
            guard = some_guard(turn)
            goal = some_goal(random.Random(turn), guard)
            if group_letters(guard) == group_letters(goal):
                self.assertIs(shows_flips(guard, goal, flips(guard, goal)), True)
            else:
                self.check_refused(flips, (guard, goal), {1: goal}, OtherLetters)
                self.check_refused(shows_flips, (guard, goal, ()), {1: goal}, OtherLetters)

    def test_six_wires(self):
        for turn in range(21):
            chance = random.Random(turn)
            guard, goal = random_guard(chance, 6, turn % 7), random_guard(chance, 6, turn % 7)
            told = fewest(guard, goal)
            self.assertIs(shows_fewest(guard, goal, told), True)
            self.assertEqual(numbers(guard, goal, told[1]), tuple(range(told[0], -1, -1)))
            other = opposite(chance, multiplied(chance, guard))
            self.assertIs(shows_flips(guard, other, flips(guard, other)), True)
            self.assertIs(shows_fewest(guard, other, fewest(guard, other)), True)

    def test_led_along_by_gates(self):
        for turn in range(40):
            guard = some_guard(turn)
            chance = random.Random(turn)
            goal = some_goal(chance, guard)
            gates = random_gates(chance, guard.wires, 12)
            mine, its = led_guard(guard, gates), led_guard(goal, gates)
            self.assertEqual(absent_and_crossing(guard, goal), absent_and_crossing(mine, its))
            number, looks = fewest(guard, goal)
            self.assertEqual(fewest(mine, its)[0], number)
            self.assertIs(shows_fewest(mine, its, (number, tuple(led(word, gates) for word in looks))), True)

    def test_groups_alone(self):
        for turn in range(40):
            guard = some_guard(turn)
            chance = random.Random(turn)
            goal = some_goal(chance, guard)
            mine, its = multiplied(chance, guard), multiplied(chance, goal)
            self.assertEqual(absent_and_crossing(guard, goal), absent_and_crossing(mine, its))
            self.assertIs(shows_fewest(mine, its, fewest(guard, goal)), True)

    def test_values_of_all_kinds(self):
        for guard, goal in ((Z, X), (Z, Z), (Guard("wires 1"), Guard("wires 1")), (Z, Guard("wires 1\nguard -Z"))):
            self.check_junk(shows_fewest, right_fewest, (guard, goal))
        for goal in (Z, Guard("wires 1\nguard -Z")):
            self.check_junk(shows_flips, right_flips, (Z, goal))

    def test_wrong_arguments(self):
        two, goal = Guard("wires 2\nguard +ZZ"), Guard("wires 2\nguard -ZZ")
        other = (OtherWires, lambda value: isinstance(value, Guard) and value.wires == 2)
        looks = (BadLooks, lambda value: is_looks(value, 2))
        for function in (absent_and_crossing, fewest, flips):
            self.check_wrong(function, (two, goal), [None, other])
        for function in (shows_fewest, shows_flips):
            self.check_wrong(function, (two, goal, 0), [None, other, None])
        self.check_wrong(numbers, (two, goal, ("+XI",)), [None, other, looks])
        for many in (0, 2):
            value = random_guard(random.Random(1), 2, many)
            for function, rest in ((absent_and_crossing, ()), (fewest, ()), (shows_fewest, (0,)), (numbers, (None,)),
                                   (flips, ()), (shows_flips, (0,))):
                self.check_refused(function, (two, goal) + rest, {1: value}, OtherMany)
        self.check_refused(numbers, (two, goal, ()), {2: ("+XI",) * 100}, BadLooks)
        self.check_refused(flips, (two, goal), {1: Guard("wires 2\nguard +XX")}, OtherLetters)
        self.check_refused(flips, (two, goal), {1: Guard("wires 3\nguard +ZZI")}, OtherWires)

    def test_near_looks(self):
        guard, goal = Guard("wires 2\nguard +ZI\nguard +IZ"), Guard("wires 2\nguard +XX\nguard +ZZ")
        told = fewest(guard, goal)
        self.check_shows(shows_fewest, right_fewest, (guard, goal), list(near(told)))

    def test_names(self):
        for function, names, args in (
                (absent_and_crossing, "guard goal", (Z, X)), (fewest, "guard goal", (Z, X)),
                (shows_fewest, "guard goal value", (Z, X, 0)), (numbers, "guard goal looks", (Z, X, ())),
                (flips, "guard goal", (Z, Z)), (shows_flips, "guard goal value", (Z, Z, 0))):
            self.check_names(function, names, args)
            self.assertEqual(function.__module__, "guardedwires.fewest")
            self.assertIs(getattr(module, function.__name__), function)


def some_of_each_group(n, many):
    """One guard of so many words of each group on n wires."""
    found = {}
    if n < 3:
        guards = [guard for guard in all_guards(n) if len(guard) == many]
    else:
        words = [word for word in sorted(all_words(n)) if word[1:] != "I" * n]
        guards = [guard_of(n, (word,)) for word in words]
        assert many == 1
    for guard in guards:
        found[group_of(n, guard.words)] = guard
    return list(found.values())
