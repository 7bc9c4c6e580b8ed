"""Section 23: knobs."""

import random
from itertools import combinations

from guardedwires import knobs
from guardedwires.errors import BadRow, BadSome, BadWord, NotKept, Out
from guardedwires.frames import frame
from guardedwires.guards import Guard, exchanged, led_guard
from guardedwires.knobs import depth, quarter_turned, same_row, shows_depth, shows_same_row, working
from tests import oracle_turns
from tests.checking import (Checking, all_guards, guard_of, junk, multiplied, near, product_word, random_gates,
                            random_guard)
from tests.oracle import by_letters, contrary, is_word, led, some_of, words_cross
from tests.oracle_guards import group, is_kept, kept_words, kind_name
from tests.oracle_turns import (are_apart, depth_lots, do_the_same, first_out, is_names, is_row, right_depth,
                                right_same_row)

TWIN = Guard("wires 2\nguard +ZZ")
ONE = (("a", "+ZI"), ("b", "+XX"), ("c", "-ZZ"))
FREE = Guard("wires 1")
NAMES = [sign for sign in "abcdefghijklmnopqrstuvwxyz"] + ["aa", "ab", "abcdefgh", "zzzzzzzz", "b" * 8]


def passing_words(guard):
    """Words that a row of the guard may have: kept ones, those of the group, and their contraries."""
    return sorted(kept_words(guard)) + sorted(sign + word[1:] for word in group(guard) for sign in "+-")


def random_row(chance, guard, many, names=None):
    words = passing_words(guard)
    kept = sorted(kept_words(guard)) or words
    names = names or chance.sample(NAMES, many)
    return tuple((name, chance.choice(kept if chance.random() < 0.8 else words)) for name in names)


def random_row_of_frame(chance, guard, many):
    """Turns by words that words of a frame make, of any number of wires."""
    words = [word for pair in frame(guard) for word in pair]
    made = []
    while len(made) < many:
        letters = by_letters([word[1:] for word in chance.sample(words, chance.randrange(1, len(words) + 1))],
                             guard.wires)
        made.append(chance.choice("+-") + letters)
    return tuple(zip(chance.sample(NAMES, many), made))


def liked_row(chance, guard, row):
    """A row that does the same: words alike, turns that pass exchanged, idle turns anywhere."""
    words = sorted(group(guard))
    turns = [(name, product_word(chance.choice(words), word)) for name, word in row if is_kept(guard, word)]
    for _ in range(20 if len(turns) > 1 else 0):
        place = chance.randrange(len(turns) - 1)
        if not words_cross(turns[place][1], turns[place + 1][1]):
            turns[place], turns[place + 1] = turns[place + 1], turns[place]
    for name in [name for name, word in row if not is_kept(guard, word) and chance.random() < 0.5]:
        turns.insert(chance.randrange(len(turns) + 1), (name, chance.choice("+-") + chance.choice(words)[1:]))
    return tuple(turns)


def near_row(chance, guard, row):
    """A row that is a bit otherwise: turns exchanged, a word's contrary or another one, a name or a turn otherwise."""
    turns = list(row)
    kind = chance.randrange(6)
    place = chance.randrange(len(turns)) if turns else None
    if turns and kind == 0:
        turns[place] = (turns[place][0], contrary(turns[place][1]))
    elif turns and kind == 1:
        turns[place] = (turns[place][0], chance.choice(passing_words(guard)))
    elif turns and kind == 2:
        turns[place] = (chance.choice([name for name in NAMES if name not in dict(turns)]), turns[place][1])
    elif turns and kind == 3:
        del turns[place]
    elif len(turns) < 12 and kind == 4:
        turns.append((chance.choice([name for name in NAMES if name not in dict(turns)]),
                      chance.choice(passing_words(guard))))
    else:
        chance.shuffle(turns)
    return tuple(turns)


def some_guard_of(chance, most=4):
    n = chance.randrange(1, most + 1)
    return random_guard(chance, n, chance.randrange(n + 1) if chance.random() < 0.3 else chance.randrange(n))


class Knobs(Checking):

    def test_working(self):
        for turn in range(120):
            chance = random.Random(turn)
            guard = some_guard_of(chance)
            row = random_row(chance, guard, turn % 13)
            self.assertEqual(working(guard, row), oracle_turns.working(guard, row))
        self.assertEqual([working(TWIN, ()), working(TWIN, ONE), working(FREE, (("a", "-I"), ("b", "-X")))],
                         [(), (0, 1), (1,)])
        self.assertEqual(working(Guard("wires 1\nguard +Z"), (("a", "-I"), ("b", "+Z"), ("c", "-Z"))), ())

    def test_quarter_turned(self):
        for turn in range(200):
            chance = random.Random(turn)
            guard = some_guard_of(chance)
            row = random_row(chance, guard, turn % 13)
            words = sorted(kept_words(guard))
            if words:
                some = tuple(sorted(set(chance.sample([name for name, _ in row] + NAMES[:3],
                                                      min(len(row) + 1, chance.randrange(6))))))
                word = chance.choice(words)
                told = quarter_turned(guard, row, some, word)
                self.assertEqual(told, oracle_turns.quarter_turned(row, some, word))
                self.assertTrue(is_kept(guard, told))

    def test_one_quarter(self):
        for turn, goes in (("X", {"X": "+X", "Y": "-Z", "Z": "+Y"}), ("Y", {"X": "+Z", "Y": "+Y", "Z": "-X"}),
                           ("Z", {"X": "-Y", "Y": "+X", "Z": "+Z"})):
            for letter, came in goes.items():
                self.assertEqual(quarter_turned(FREE, (("k", "+" + turn),), ("k",), "+" + letter), came)
                self.assertEqual(quarter_turned(FREE, (("k", "+" + turn),), ("k",), "-" + letter), contrary(came))
                crosses = letter != turn
                self.assertEqual(quarter_turned(FREE, (("k", "-" + turn),), ("k",), "+" + letter),
                                 contrary(came) if crosses else came)
                self.assertEqual(quarter_turned(FREE, (("k", "+" + turn),), (), "+" + letter), "+" + letter)
                self.assertEqual(quarter_turned(FREE, (("k", "+" + turn),), ("a", "kk"), "+" + letter), "+" + letter)
        row = (("a", "+Z"), ("b", "+X"))
        self.assertEqual([quarter_turned(FREE, row, some, "+X") for some in (("a",), ("b",), ("a", "b"))],
                         ["-Y", "+X", "+Z"])
        self.assertEqual(quarter_turned(FREE, row[::-1], ("a", "b"), "+X"), "-Y")

    def test_four_quarters_are_none(self):
        for turn in range(40):
            chance = random.Random(turn)
            guard = random_guard(chance, 4, turn % 4)
            word, turned = chance.choice(sorted(kept_words(guard))), chance.choice(sorted(kept_words(guard)))
            row = tuple((name, turned) for name in "abcd")
            self.assertEqual(quarter_turned(guard, row, tuple("abcd"), word), word)
            self.assertEqual(quarter_turned(guard, row, ("a", "c"), word),
                             contrary(word) if words_cross(word, turned) else word)

    def test_same_row(self):
        found = set()
        for turn in range(200):
            chance = random.Random(turn)
            guard = some_guard_of(chance)
            row = random_row(chance, guard, (turn * 5) % 13)
            other = liked_row(chance, guard, row)
            if turn % 3:
                other = near_row(chance, guard, other)
            told = same_row(guard, row, other)
            self.assertTrue(right_same_row(guard, row, other, told), (guard.text, row, other, told))
            self.assertEqual(told[0] == "same", do_the_same(guard, row, other))
            self.assertIs(shows_same_row(guard, row, other, told), True)
            its = [("same", tuple(chance.randrange(-1, 12) for _ in range(many))) for many in range(3)] + [("same", ())]
            if kept_words(guard):
                its += [("apart", (name,), chance.choice(sorted(kept_words(guard)))) for name in NAMES[:3]]
            if turn % 5 == 0:
                self.check_told(same_row, shows_same_row, right_same_row, (guard, row, other), its, most=30)
            self.check_shows(shows_same_row, right_same_row, (guard, row, other), its)
            found.add((told[0], len(told[1])))
        self.assertLessEqual({("apart", 1), ("apart", 2), ("same", 0), ("same", 1), ("same", 4)}, found)

    def test_just_one_of_both(self):
        """Of rows of few turns: where some names and some kept word are led apart, and only there, it is told so."""
        told = set()
        for turn in range(150):
            chance = random.Random(turn)
            n = 1 + turn % 2
            guard = random_guard(chance, n, chance.randrange(n))
            row = random_row(chance, guard, 3, ["a", "b", "c"])
            other = chance.choice([liked_row(chance, guard, row), near_row(chance, guard, row),
                                   near_row(chance, guard, row[::-1]),
                                   random_row(chance, guard, 3, ["b", "a", "c"])])
            names = sorted(set(dict(row)) | set(dict(other)))
            apart = any(are_apart(guard, row, other, [names[k] for k in some], word)
                        for some in some_of(names) for word in kept_words(guard))
            self.assertEqual(same_row(guard, row, other)[0], "apart" if apart else "same")
            told.add(apart)
        self.assertEqual(told, {True, False})

    def test_any_words_that_are_apart(self):
        for turn in range(40):
            chance = random.Random(turn)
            guard = random_guard(chance, 2, turn % 2)
            row, other = random_row(chance, guard, 3, ["a", "b", "c"]), random_row(chance, guard, 3, ["c", "a", "b"])
            for some in [("a",), ("b",), ("a", "b"), ("a", "b", "c"), ("c", "d"), ("a", "zz")]:
                values = [("apart", some, word) for word in sorted(kept_words(guard))]
                self.check_shows(shows_same_row, right_same_row, (guard, row, other), values)
        value = ("apart", ("a",), "+XX")
        self.assertIs(shows_same_row(TWIN, ONE, (), value), True)
        for its in (("apart", "a", "+XX"), ("apart", ["a"], "+XX"), ("apart", (), "+XX"), ("apart", ("a", "a"), "+XX"),
                    ("apart", ("b", "a"), "+XX"), ("apart", ("A",), "+XX"), ("apart", ("a",), "+ZI"),
                    ("apart", ("a",), "+XI"),
                    ("apart", ("a",), "+ZZ"), ("apart", ("a",), "XX"), ("apart", ("a", 1), "+XX"),
                    ("apart", ("a", ""), "+XX")):
            self.assertIs(shows_same_row(TWIN, ONE, (), its), False, its)

    def test_any_places(self):
        """Any exchanges that lead there do, also more of them than are needed; words that cross are not exchanged."""
        row = (("a", "+ZI"), ("i", "+ZZ"), ("b", "+IZ"), ("c", "-ZI"))
        other = (("c", "-IZ"), ("b", "+ZI"), ("a", "+IZ"))
        for places in ((0, 1, 0), (1, 0, 1), (0, 1, 0, 0, 0), (1, 1, 0, 1, 0), (0, 1, 0) + (1,) * 600):
            self.assertIs(shows_same_row(TWIN, row, other, ("same", places)), True)
        for places in ((0, 1), (1, 0), (), (0, 1, 2), (0, 2, 0), (-1, 0), (True, 0, 1), (0, True, 0), ("0", "1", "0"),
                       [0, 1, 0], (0, 1, 0, 0), (0, 1, 0, None)):
            self.assertIs(shows_same_row(TWIN, row, other, ("same", places)), False, places)
        crossing = (("a", "+ZI"), ("b", "+XX"))
        self.assertIs(shows_same_row(TWIN, crossing, crossing, ("same", (0, 0))), False)
        self.assertIs(shows_same_row(TWIN, crossing, crossing[::-1], ("same", (0,))), False)
        # Exchanges that lead to the right names are not enough: words have to be alike.
        self.assertIs(shows_same_row(TWIN, row, (("c", "+IZ"), ("b", "+ZI"), ("a", "+IZ")), ("same", (0, 1, 0))), False)

    def test_long_rows(self):
        """Twelve turns that pass, in the contrary sequence: 66 exchanges."""
        row = tuple((name, "+ZI") for name in "abcdefghijkl")
        told = same_row(TWIN, row, row[::-1])
        self.assertEqual((told[0], len(told[1])), ("same", 66))
        self.assertIs(shows_same_row(TWIN, row, row[::-1], told), True)
        self.assertEqual(depth(TWIN, row), ((tuple(range(12)),), (0,)))
        row = tuple((name, "+ZI" if k % 2 else "+XX") for k, name in enumerate("abcdefghijkl"))
        self.assertEqual(depth(TWIN, row), (tuple((k,) for k in range(12)), tuple(range(12))))
        self.assertEqual(same_row(TWIN, (), ()), ("same", ()))
        self.assertEqual(depth(TWIN, ()), ((), ()))
        self.assertEqual(same_row(TWIN, (("a", "+ZZ"),), (("b", "-ZZ"), ("c", "-II"))), ("same", ()))

    def test_depth(self):
        for turn in range(150):
            chance = random.Random(turn)
            guard = some_guard_of(chance)
            row = random_row(chance, guard, (turn * 5) % 13)
            lots = depth_lots(guard, row)
            chains = [numbers for numbers in combinations(range(len(row)), len(lots))][:40]
            if turn % 4 == 0:
                self.check_told(depth, shows_depth, right_depth, (guard, row), [(lots, (0, 1, 2)[:len(lots)])], most=40)
            self.assertTrue(right_depth(guard, row, depth(guard, row)))
            self.assertIs(shows_depth(guard, row, depth(guard, row)), True)
            self.check_shows(shows_depth, right_depth, (guard, row), [(lots, numbers) for numbers in chains])

    def test_depth_is_least(self):
        """Fewer lots never do: each way to turn them in lots, as they cross, has as many at least."""
        for turn in range(40):
            chance = random.Random(turn)
            guard = random_guard(chance, 2, turn % 2)
            row = random_row(chance, guard, 5)
            numbers = oracle_turns.working(guard, row)
            lots, chain = depth(guard, row)
            self.assertEqual(sorted(number for lot in lots for number in lot), list(numbers))
            for one, other in combinations(numbers, 2):
                if words_cross(row[one][1], row[other][1]):
                    at = [k for number in (one, other) for k, lot in enumerate(lots) if number in lot]
                    self.assertLess(*at)
            self.assertEqual(len(chain), len(lots))

    def test_six_wires(self):
        for turn in range(12):
            chance = random.Random(turn)
            guard = random_guard(chance, 6, turn % 6)
            row = random_row_of_frame(chance, guard, 12 if turn % 2 else 5)
            other = tuple(chance.sample(row, len(row)))
            self.assertEqual(working(guard, row), tuple(range(len(row))))
            self.assertTrue(right_depth(guard, row, depth(guard, row)))
            told = same_row(guard, row, other)
            self.assertTrue(right_same_row(guard, row, other, told))
            self.assertIs(shows_same_row(guard, row, other, told), True)
            self.assertEqual(same_row(guard, row, row), ("same", ()))

    def test_guards_that_keep_nothing(self):
        """No turn works there, so all rows do the same."""
        for turn in range(10):
            chance = random.Random(turn)
            guard = random_guard(chance, 1 + turn % 4, 1 + turn % 4)
            row, other = random_row(chance, guard, 12), random_row(chance, guard, turn % 4)
            self.assertEqual((working(guard, row), depth(guard, row)), ((), ((), ())))
            self.assertEqual(same_row(guard, row, other), ("same", ()))
            self.assertIs(shows_same_row(guard, row, other, ("same", (0,))), False)

    def test_names_of_one_letter_and_of_eight(self):
        row = (("z", "+ZI"), ("abcdefgh", "+XX"), ("aa", "+IZ"))
        self.assertEqual(working(TWIN, row), (0, 1, 2))
        self.assertEqual(quarter_turned(TWIN, row, ("abcdefgh", "z"), "+XX"),
                         oracle_turns.quarter_turned(row, ("abcdefgh", "z"), "+XX"))
        for name in ("", "abcdefghi", "A", "a1", "a b", "aB", "a ", "\n", "_", 1, None, ("a",), b"a"):
            self.check_refused(working, (TWIN, row), {1: ((name, "+ZI"),)}, BadRow)
            self.check_refused(quarter_turned, (TWIN, row, (), "+ZI"), {2: (name,)}, BadSome)

    def test_bases_and_wires_exchanged_and_gates_ahead(self):
        for turn in range(40):
            chance = random.Random(turn)
            guard = random_guard(chance, 4, turn % 4)
            row = random_row(chance, guard, 6)
            other = near_row(chance, guard, liked_row(chance, guard, row))
            base = multiplied(chance, guard)
            self.assertEqual((working(guard, row), depth(guard, row)[0]), (working(base, row), depth(base, row)[0]))
            told = same_row(guard, row, other)
            self.assertIs(shows_same_row(base, row, other, told), True)
            wires, gates = tuple(chance.sample(range(4), 4)), random_gates(chance, 4, 9)
            for its, along in ((exchanged(guard, wires),
                                lambda word: word[0] + "".join(word[1 + wire] for wire in wires)),
                               (led_guard(guard, gates), lambda word: led(word, gates))):
                mine, others = [tuple((name, along(word)) for name, word in some) for some in (row, other)]
                self.assertEqual(working(guard, row), working(its, mine))
                self.assertEqual(depth(guard, row)[0], depth(its, mine)[0])
                value = told if told[0] == "same" else ("apart", told[1], along(told[2]))
                self.assertIs(shows_same_row(its, mine, others, value), True)
                word = chance.choice(sorted(kept_words(guard)))
                some = tuple(sorted(name for name, _ in row[:3]))
                self.assertEqual(along(quarter_turned(guard, row, some, word)),
                                 quarter_turned(its, mine, some, along(word)))

    def test_values_of_all_kinds(self):
        for other in (ONE, ONE[::-1], ()):
            self.check_junk(shows_same_row, right_same_row, (TWIN, ONE, other))
            for value in junk():
                self.check_shows(shows_same_row, right_same_row, (TWIN, ONE, other),
                                 [("same", value), ("apart", value, "+XX"), ("apart", ("a",), value),
                                  ("apart", value, value)])
        self.check_junk(shows_depth, right_depth, (TWIN, ONE))
        self.check_junk(shows_depth, right_depth, (TWIN, ()))
        for value in junk():
            self.check_shows(shows_depth, right_depth, (TWIN, ONE),
                             [(value, (0, 1)), (((0,), (1,)), value), (value, value)])
        self.check_shows(shows_depth, right_depth, (TWIN, ONE), [value for value in near((((0,), (1,)), (0, 1)))])

    def test_wrong_arguments(self):
        row = (BadRow, lambda value: is_row(value, 2) and first_out(TWIN, value) is None)
        some, word = (BadSome, is_names), (BadWord, lambda value: is_word(value, 2))
        for function, more in ((working, ()), (depth, ()), (shows_depth, (0,))):
            self.check_wrong(function, (TWIN, ONE) + more, [None, row] + [None] * len(more))
        for function, more in ((same_row, ()), (shows_same_row, (0,))):
            self.check_wrong(function, (TWIN, ONE, ()) + more, [None, row, row] + [None] * len(more))
        self.check_wrong(quarter_turned, (TWIN, ONE, ("a",), "+XX"), [None, row, some, word])
        for value in list(near(ONE)) + [(("a", "+ZI"), ("a", "+XX")), (("a", "+ZI", "+XX"),), (("a",),), ("a", "+ZI"),
                                        (["a", "+ZI"],),
                                        [("a", "+ZI")], (("a", "+ZII"),), (("a", "ZI"),),
                                        tuple((name, "+ZI") for name in "abcdefghijklm")]:
            if not is_row(value, 2):
                for function, more in ((working, ()), (depth, ()), (same_row, ((),)), (quarter_turned, ((), "+XX"))):
                    self.check_refused(function, (TWIN, ONE) + more, {1: value}, BadRow)
                self.check_refused(same_row, (TWIN, ONE, ONE), {2: value}, BadRow)
        for value in (("b", "a"), ("a", "a"), ["a"], "a", ("a", None), ("a", 1), {"a": 1}, (("a",),)):
            self.check_refused(quarter_turned, (TWIN, ONE, (), "+XX"), {2: value}, BadSome)
        for value in ("+ZZ", "-ZZ", "+II", "-II", "+XI", "-IY"):
            self.check_refused(quarter_turned, (TWIN, ONE, (), "+XX"), {3: value}, NotKept)
            self.check_refused(quarter_turned, (TWIN, ONE, (), "+XX"), {2: 0, 3: value}, BadSome)

    def check_out(self, number, function, *args):
        with self.assertRaises(Out) as caught:
            function(*args)
        self.assertIs(type(caught.exception.value), int)
        self.assertEqual(caught.exception.value, number)

    def test_out(self):
        for guard in all_guards(1) + all_guards(2)[::9]:
            words = [word for word in ("+X", "-Y", "+Z") if guard.wires == 1] or ["+XX", "-ZZ", "+ZI", "-YX", "+IY"]
            row = tuple(zip("abcde", words))
            number = first_out(guard, row)
            if number is not None:
                self.assertEqual(kind_name(guard, row[number][1]), "seen")
                self.check_out(number, working, guard, row)
                self.check_out(number, depth, guard, row)
                self.check_out(number, shows_depth, guard, row, None)
                self.check_out(number, quarter_turned, guard, row, None, None)
                self.check_out(number, same_row, guard, row, None)
                self.check_out(number, shows_same_row, guard, (), row, None)
        bad = ONE + (("d", "+XI"), ("e", "+IY"))
        self.check_out(3, same_row, TWIN, bad, 0)
        self.check_out(4, same_row, TWIN, ONE, (ONE[0], ONE[1], ONE[2], ("x", "+XX"), ("d", "+XI")))
        self.check_refused(same_row, (TWIN, ONE, bad), {1: 0}, BadRow)
        self.check_refused(quarter_turned, (guard_of(2, ()), bad, (), "+XX"), {2: None, 3: None}, BadSome)

    def test_names(self):
        for function, names, args in (
                (working, "guard row", (TWIN, ONE)), (quarter_turned, "guard row some word",
                                                      (TWIN, ONE, ("a",), "+XX")),
                (same_row, "guard row other", (TWIN, ONE, ONE)),
                                      (shows_same_row, "guard row other value", (TWIN, ONE, ONE, 0)),
                (depth, "guard row", (TWIN, ONE)), (shows_depth, "guard row value", (TWIN, ONE, 0))):
            self.check_names(function, names, args)
            self.assertEqual(function.__module__, "guardedwires.knobs")
            self.assertIs(getattr(knobs, function.__name__), function)
