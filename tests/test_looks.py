"""Section 14: looks."""

import random

from guardedwires import looks
from guardedwires.errors import BadFrame, BadLetters, BadLooks, BadWord, Never, NotKept, Reads
from guardedwires.frames import frame
from guardedwires.guards import Guard, group, led_guard
from guardedwires.looks import along, foretold, gone, looked, read, went
from tests import oracle_looks
from tests.checking import (Checking, all_guards, guard_of, junk, multiplied, random_gates, random_guard, random_word,
                            some_guard, turned_pairs)
from tests.oracle import all_letters, all_words, contrary, is_letters, is_word, led
from tests.oracle_guards import kept_words, kind_name, right_frame
from tests.oracle_looks import all_went, group_behind, is_looks

ONE = Guard("wires 2\nguard +ZI")
PAIRS = (("+IX", "+IZ"),)
THREE = Guard("wires 3\nguard +ZZI\nguard -XXI")
REFUSED = {"contrary": Never, "kept": Reads}


def some_looks(chance, guard, many):
    """Looks that nothing refuses, some of words of the group among them."""
    words, found = guard.words, []
    for _ in range(many * 20):
        word = random_word(chance, guard.wires)
        came, _, refusal = all_went(words, (), (word,))
        if refusal is None and len(found) < many:
            words = came
            found.append(word)
    return tuple(found)


class Looks(Checking):

    def test_foretold(self):
        for guard in all_guards(1) + all_guards(2)[::7] + [some_guard(turn) for turn in range(40)]:
            for letters in sorted(all_letters(guard.wires))[::2]:
                self.assertEqual(foretold(guard, letters), oracle_looks.foretold(guard, letters))
        self.assertEqual(foretold(THREE, "YYI"), ("sure", "+"))
        self.assertEqual(foretold(THREE, "XXI"), ("sure", "-"))
        self.assertEqual(foretold(THREE, "III"), ("sure", "+"))
        self.assertEqual(foretold(THREE, "ZIZ"), ("falls", 1))
        self.assertEqual(foretold(THREE, "YIZ"), ("falls", 0))
        self.assertEqual(foretold(THREE, "ZZZ"), ("reads",))

    def test_looked_by_all_words(self):
        for guard in all_guards(1) + all_guards(2)[::7] + [some_guard(turn, 3) for turn in range(30)] + [THREE]:
            for word in sorted(all_words(guard.wires)):
                name = kind_name(guard, word)
                if name in REFUSED:
                    self.check_refused(looked, (guard, word), {1: word}, REFUSED[name])
                    continue
                told = looked(guard, word)
                self.assertIsInstance(told, Guard)
                self.assertEqual(told, looked(guard, word))
                self.assertEqual(set(group(told)), group_behind(group(guard), word))
                self.assertEqual(told.words, oracle_looks.looked(guard.words, word) if name == "seen" else guard.words)
                self.assertEqual(told == guard, name == "guard")

    def test_words_in_their_sequence(self):
        guard = Guard("wires 4\nguard +ZIII\nguard -IZII\nguard +IIZI\nguard +IIIZ")
        self.assertEqual(looked(guard, "-IXXX").words, ("+ZIII", "-IXXX", "-IZZI", "-IZIZ"))
        self.assertEqual(looked(guard, "+XIIX").words, ("+XIIX", "-IZII", "+IIZI", "+ZIIZ"))
        self.assertEqual(looked(guard, "-ZZII"), guard)
        self.check_refused(looked, (guard, "+ZZII"), {1: "+ZZII"}, Never)

    def test_read(self):
        for guard in all_guards(1) + all_guards(2)[::7] + [some_guard(turn, 3) for turn in range(30)]:
            for word in sorted(all_words(guard.wires)):
                if kind_name(guard, word) == "kept":
                    self.assertEqual(read(guard, word), guard_of(guard.wires, guard.words + (word,)))
                else:
                    self.check_refused(read, (guard, word), {1: word}, NotKept)

    def test_went(self):
        for turn in range(60):
            guard = some_guard(turn)
            chance = random.Random(turn)
            pairs = turned_pairs(chance, guard)
            for word in chance.sample(sorted(all_words(guard.wires)), 8):
                name = kind_name(guard, word)
                if name in REFUSED:
                    self.check_refused(went, (guard, pairs, word), {2: word}, REFUSED[name])
                    continue
                told = went(guard, pairs, word)
                self.assertEqual(told, oracle_looks.went(guard.words, pairs, word))
                self.assertTrue(right_frame(looked(guard, word), told))
                self.assertEqual(told == pairs or name == "seen", True)

    def test_along_and_gone(self):
        for turn in range(60):
            guard = some_guard(turn)
            chance = random.Random(turn)
            pairs = turned_pairs(chance, guard)
            some = some_looks(chance, guard, turn % 7)
            words, frame_behind, refusal = all_went(guard.words, pairs, some)
            self.assertIsNone(refusal)
            self.assertEqual(along(guard, some), guard_of(guard.wires, words))
            self.assertEqual(gone(guard, pairs, some), frame_behind)
            self.assertTrue(right_frame(along(guard, some), frame_behind))
            one = guard
            for word in some:
                pairs = went(one, pairs, word)
                one = looked(one, word)
            self.assertEqual((one, pairs), (along(guard, some), frame_behind))

    def test_the_first_look_that_is_refused(self):
        seen = {"contrary": 0, "kept": 0}
        for turn in range(150):
            guard = some_guard(turn)
            chance = random.Random(turn)
            pairs = frame(guard)
            some = some_looks(chance, guard, turn % 4) + tuple(random_word(chance, guard.wires) for _ in range(4))
            refusal = all_went(guard.words, pairs, some)[2]
            if refusal is None:
                along(guard, some)
                continue
            seen[refusal[0]] += 1
            for function, args in ((along, (guard, some)), (gone, (guard, pairs, some))):
                with self.assertRaises(REFUSED[refusal[0]]) as caught:
                    function(*args)
                self.assertIs(type(caught.exception), REFUSED[refusal[0]])
                self.assertEqual(caught.exception.value, refusal[1])
                self.assertIs(type(caught.exception.value), int)
        self.assertGreater(min(seen.values()), 20)

    def test_edges(self):
        self.assertEqual(along(ONE, ()), ONE)
        self.assertEqual(gone(ONE, PAIRS, ()), PAIRS)
        self.assertEqual(along(ONE, ("+ZI",) * 99), ONE)
        self.assertEqual(along(ONE, ("+XI", "+ZI") * 49).words, ("+ZI",))
        self.check_refused(along, (ONE, ()), {1: ("+ZI",) * 100}, BadLooks)
        self.check_refused(gone, (ONE, PAIRS, ()), {2: ("+ZI",) * 100}, BadLooks)
        for value in (["+ZI"], ("+Z",), ("ZI",), "+ZI", None, ("+ZI", "+ZII"), ("+zi",), ("+ZI", None)):
            self.check_refused(along, (ONE, ()), {1: value}, BadLooks)
        # A look that is no word is told ahead of one that can never be.
        self.check_refused(along, (ONE, ()), {1: ("-ZI", "+")}, BadLooks)
        self.check_refused(looked, (Guard("wires 1"), "+I"), {1: "-I"}, Never)
        self.assertEqual(looked(Guard("wires 1"), "+I"), Guard("wires 1"))
        self.check_refused(looked, (Guard("wires 1"), "+I"), {1: "+X"}, Reads)

    def test_three_looks_that_come_back(self):
        self.assertEqual(gone(ONE, PAIRS, ("+XX", "+YI", "+ZI")), (("+IX", "-IY"),))
        self.assertEqual(gone(ONE, PAIRS, ("-XX", "+YI", "+ZI")), (("+IX", "+IY"),))
        self.assertEqual(along(ONE, ("-XX", "+YI", "+ZI")), ONE)

    def test_led_along_by_gates(self):
        for turn in range(40):
            guard = some_guard(turn)
            chance = random.Random(turn)
            gates = random_gates(chance, guard.wires, 12)
            other = led_guard(guard, gates)
            pairs = turned_pairs(chance, guard)
            its = tuple(tuple(led(word, gates) for word in pair) for pair in pairs)
            some = some_looks(chance, guard, 5)
            mine = tuple(led(word, gates) for word in some)
            self.assertEqual(led_guard(along(guard, some), gates), along(other, mine))
            told = gone(guard, pairs, some)
            self.assertEqual(tuple(tuple(led(word, gates) for word in pair) for pair in told), gone(other, its, mine))

    def test_groups_alone_and_contraries(self):
        for turn in range(60):
            guard = some_guard(turn)
            chance = random.Random(turn)
            other = multiplied(chance, guard)
            some = some_looks(chance, guard, 5)
            self.assertEqual(group(along(guard, some)), group(along(other, some)))
            for letters in sorted(all_letters(guard.wires))[::5]:
                self.assertEqual(foretold(guard, letters)[0], foretold(other, letters)[0])
                told = foretold(guard_of(guard.wires, [contrary(word) for word in guard.words]), letters)
                self.assertEqual(told[0], foretold(guard, letters)[0])

    def test_six_wires(self):
        for turn in range(21):
            chance = random.Random(turn)
            guard = random_guard(chance, 6, turn % 7)
            some = some_looks(chance, guard, 9)
            self.assertTrue(right_frame(along(guard, some), gone(guard, frame(guard), some)))

    def test_wrong_arguments(self):
        letters = (BadLetters, lambda value: is_letters(value, 2))
        word = (BadWord, lambda value: is_word(value, 2))
        framed = (BadFrame, lambda value: right_frame(ONE, value))
        rows = (BadLooks, lambda value: is_looks(value, 2))
        self.check_wrong(foretold, (ONE, "XX"), [None, letters])
        self.check_wrong(looked, (ONE, "+XX"), [None, word])
        self.check_wrong(read, (ONE, "+IX"), [None, word])
        self.check_wrong(went, (ONE, PAIRS, "+XX"), [None, framed, word])
        self.check_wrong(along, (ONE, ("+XX",)), [None, rows])
        self.check_wrong(gone, (ONE, PAIRS, ("+XX",)), [None, framed, rows])
        self.check_refused(went, (ONE, PAIRS, "-ZI"), {1: (), 2: "-ZI"}, BadFrame)
        for value in junk():
            if is_word(value, 2) and kind_name(ONE, value) in REFUSED:
                self.check_refused(looked, (ONE, "+XX"), {1: value}, REFUSED[kind_name(ONE, value)])

    def test_all_kept_words_are_refused(self):
        for guard in (ONE, THREE, Guard("wires 2")):
            for word in kept_words(guard):
                self.check_refused(looked, (guard, word), {1: word}, Reads)
                self.check_refused(went, (guard, frame(guard), word), {2: word}, Reads)

    def test_names(self):
        for function, names, args in (
                (foretold, "guard letters", (ONE, "ZI")), (looked, "guard word", (ONE, "+XX")),
                (read, "guard word", (ONE, "+IX")), (went, "guard pairs word", (ONE, PAIRS, "+XX")),
                (along, "guard looks", (ONE, ("+XX",))), (gone, "guard pairs looks", (ONE, PAIRS, ("+XX",)))):
            self.check_names(function, names, args)
            self.assertEqual(function.__module__, "guardedwires.looks")
            self.assertIs(getattr(looks, function.__name__), function)
