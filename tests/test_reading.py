"""Section 17: what looks read."""

import random
from itertools import product

from guardedwires import reading
from guardedwires.errors import BadLooks, Never
from guardedwires.guards import Guard, exchanged, group, in_steps
from guardedwires.looks import along, gone, read
from guardedwires.reading import behind, first_reading, read_alike, reads, shows_read_alike, shows_reads
from tests import oracle_looks
from tests.checking import (Checking, all_guards, multiplied, near, opposite, random_guard, random_word, some_guard,
                            turned_pairs)
from tests.oracle import all_words, contrary
from tests.oracle_guards import kept_letters, kind_name
from tests.oracle_looks import all_went, groups_ahead, is_looks, read_by, right_read_alike, right_reads

THREE = Guard("wires 3\nguard +ZZI\nguard +IZZ")
FOUR = Guard("wires 4\nguard +XXXX\nguard +ZZZZ")
TWO = Guard("wires 2\nguard +ZZ")


def any_looks(chance, guard, many):
    """Looks that can all be, whatever they read."""
    found = []
    for _ in range(many):
        word = random_word(chance, guard.wires)
        if groups_ahead(guard, tuple(found) + (word,))[1] is not None:
            word = contrary(word)
        found.append(word)
    return tuple(found)


class Reading(Checking):

    def test_behind(self):
        for turn in range(100):
            guard = some_guard(turn)
            looks = any_looks(random.Random(turn), guard, turn % 6)
            told = behind(guard, looks)
            self.assertIsInstance(told, Guard)
            self.assertEqual(set(group(told)), groups_ahead(guard, looks)[0][-1])
            self.assertEqual(told, in_steps(told))
            self.assertEqual(told, behind(multiplied(random.Random(turn), guard), looks))
        self.assertEqual(behind(THREE, ()), in_steps(THREE))

    def test_behind_looks_that_read_nothing(self):
        for turn in range(60):
            guard = some_guard(turn)
            looks = any_looks(random.Random(turn), guard, 3)
            if first_reading(guard, looks) is None:
                self.assertEqual(behind(guard, looks), in_steps(along(guard, looks)))
                self.assertEqual(reads(guard, looks)[0], ())
        self.assertEqual(behind(TWO, ("+ZI",)), in_steps(read(TWO, "+ZI")))

    def test_reads(self):
        some = []
        for turn in range(120):
            guard = some_guard(turn)
            chance = random.Random(turn)
            looks = any_looks(chance, guard, turn % 6)
            others = [(tuple(word for word in looks if kind_name(guard, word) == "kept"), turned_pairs(chance, guard))]
            told = self.check_told(reads, shows_reads, right_reads, (guard, looks), others, most=20)
            some.append(len(told[0]))
        self.assertTrue({0, 1, 2} <= set(some))

    def test_reads_by_all_words(self):
        for guard in [Guard("wires 1")] + all_guards(2)[1:31:9] + [Guard("wires 2\nguard +YX")]:
            every = sorted(all_words(guard.wires))
            chance = random.Random(3)
            for _ in range(6):
                looks = any_looks(chance, guard, chance.randrange(4))
                left = reads(guard, looks)[1]
                values = [((word,), left) for word in every] + [((), (pair,)) for pair in product(every, repeat=2)][::7]
                self.check_shows(shows_reads, right_reads, (guard, looks), values)

    def test_what_goes_on_to_a_word_of_the_group_is_read(self):
        one = Guard("wires 2\nguard +ZI")
        # IX goes on as it is, IZ as ZZ, and ZZ is looked at: so IZ is read.
        self.assertEqual(read_by(one, ("+XX", "+ZZ")), {"IZ", "ZZ"})
        self.assertIs(shows_reads(one, ("+XX", "+ZZ"), (("-ZZ",), ())), True)
        self.assertIs(shows_reads(one, ("+XX", "+ZZ"), (("+IX",), ())), False)
        self.assertIs(shows_reads(one, ("+XX", "+ZZ"), (("+IZ", "+ZZ"), ())), False)
        self.assertIs(shows_reads(one, ("+XX", "+ZZ"), ((), (("+IX", "+IZ"),))), False)
        # What is read first spoils what crosses it, and is read still, whatever is looked at behind it.
        self.assertEqual(read_by(one, ("+IX", "+IZ")), {"IX", "ZX"})
        self.assertEqual(read_by(one, ("+IX", "+XZ", "+IY")), {"IX", "ZX"})
        self.assertEqual(reads(one, ("+XI", "+IZ", "+YI", "+XX"))[0], reads(one, ("+IZ",))[0])

    def test_what_is_read_is_what_passes_all_that_goes_on(self):
        for turn in range(60):
            guard = some_guard(turn)
            looks = any_looks(random.Random(turn), guard, turn % 6)
            told, left = reads(guard, looks)
            self.assertEqual(len(told) + len(left), guard.kept)
            groups = groups_ahead(guard, looks)[0]
            for letters in sorted(kept_letters(guard))[::5]:
                goes = oracle_looks.gone_on(groups, letters, looks) is not None
                passes = not any(oracle_looks.cross(letters, word[1:]) for word in told)
                self.assertEqual(goes, passes)

    def test_left_goes_on(self):
        for turn in range(40):
            guard = some_guard(turn)
            looks = any_looks(random.Random(turn), guard, 3)
            if first_reading(guard, looks) is None:
                left = reads(guard, looks)[1]
                self.assertEqual(len(gone(guard, left, looks)), guard.kept)

    def test_near_values(self):
        value = (("-IIXX",), (("+XIXI", "+ZZII"),))
        self.assertIs(shows_reads(FOUR, ("+XXII",), value), True)
        self.check_shows(shows_reads, right_reads, (FOUR, ("+XXII",)), list(near(value)))
        for other in ((("-IIXX", "+XXII"), ()), (["-IIXX"], value[1]), [value[0], value[1]], (value[0],), value + ((),),
                      ((), value[1]), (("+ZZII",), value[1]), (("-IIXX",), (("+XIXI", "+IXXI"),)), (("-IIXX",), ())):
            self.assertIs(shows_reads(FOUR, ("+XXII",), other), False, other)

    def test_words_of_read_are_independent(self):
        looks = ("+XXII", "+ZZII")
        for read_words, wanted in ((("+XXII", "-IIZZ"), True), (("+YYII", "+ZZII"), True), (("+XXII", "-IIXX"), False),
                                   (("+XXII", "+XXII"), False), (("+XXII",), False), (("+XXII", "+XIXI"), False),
                                   (("+XXII", "+ZZII", "+YYII"), False), (("+XXII", "+XXXX"), False)):
            self.assertIs(shows_reads(FOUR, looks, (read_words, ())), wanted)
        self.assertIs(shows_reads(FOUR, looks[:1], (("+XXII",), ())), False)
        self.assertIs(shows_reads(FOUR, looks[:1], ((), (("+XIXI", "+ZZII"), ("+XXII", "+ZIZI")))), False)

    def test_alike_is_shown_just_where_it_is_so(self):
        for looks, other, wanted in (((), ("+ZI",), False), (("+ZI",), ("-IZ",), True), (("+XX",), ("+ZI",), False),
                                     ((), ("+XI",), True), (("+XX", "+ZI"), ("-YY",), True)):
            self.assertIs(shows_read_alike(TWO, looks, other, ("alike",)), wanted)
            self.assertIs(shows_read_alike(TWO, other, looks, ("alike",)), wanted)
            self.assertEqual(read_alike(TWO, looks, other) == ("alike",), wanted)

    def test_first_reading(self):
        found = []
        for turn in range(120):
            guard = some_guard(turn)
            looks = any_looks(random.Random(turn), guard, turn % 6)
            told = first_reading(guard, looks)
            self.assertIs(type(told) is int or told is None, True)
            self.assertEqual(told, oracle_looks.first_reading(guard, looks))
            self.assertEqual(told is None, reads(guard, looks)[0] == ())
            found.append(told)
        self.assertTrue({None, 0, 1, 2} <= set(found))

    def test_read_alike(self):
        names = []
        for turn in range(150):
            guard = some_guard(turn)
            chance = random.Random(turn)
            looks = any_looks(chance, guard, turn % 4)
            other = any_looks(chance, guard, turn // 4 % 4) if turn % 3 else looks + any_looks(chance, behind(guard, looks), 1)
            others = [("parts", random_word(chance, guard.wires)) for _ in range(6)]
            told = self.check_told(read_alike, shows_read_alike, right_read_alike, (guard, looks, other), others, most=20)
            names.append(told[0])
        self.assertGreater(min(names.count("alike"), names.count("parts")), 20)

    def test_parts_by_all_words(self):
        for guard in all_guards(1) + all_guards(2)[1:31:9]:
            every = sorted(all_words(guard.wires))
            chance = random.Random(5)
            for _ in range(5):
                looks, other = any_looks(chance, guard, 2), any_looks(chance, guard, 2)
                parts = [word for word in every if shows_read_alike(guard, looks, other, ("parts", word))]
                self.assertEqual(parts, [w for w in every if right_read_alike(guard, looks, other, ("parts", w))])
                self.assertEqual(read_alike(guard, looks, other)[0], "parts" if parts else "alike")

    def test_signs_do_not_matter(self):
        for turn in range(40):
            guard = some_guard(turn)
            chance = random.Random(turn)
            looks = any_looks(chance, guard, 5)
            heard = []
            for word in looks:
                word = chance.choice((word, contrary(word)))
                if groups_ahead(guard, tuple(heard) + (word,))[1] is not None:
                    word = contrary(word)
                heard.append(word)
            self.assertEqual(read_alike(guard, looks, tuple(heard)), ("alike",))
            self.assertIs(shows_reads(guard, tuple(heard), reads(guard, looks)), True)
            self.assertEqual(first_reading(guard, looks), first_reading(guard, tuple(heard)))

    def test_looks_that_can_never_be(self):
        seen = []
        for turn in range(120):
            guard = some_guard(turn)
            chance = random.Random(turn)
            looks = tuple(random_word(chance, guard.wires) for _ in range(turn % 7))
            number = groups_ahead(guard, looks)[1]
            calls = ((behind, (looks,)), (reads, (looks,)), (shows_reads, (looks, 0)), (first_reading, (looks,)),
                     (read_alike, (looks, ())), (read_alike, ((), looks)), (shows_read_alike, (looks, (), 0)))
            for function, args in calls:
                if number is None:
                    function(guard, *args)
                    continue
                with self.assertRaises(Never) as caught:
                    function(guard, *args)
                self.assertEqual(caught.exception.value, number)
                self.assertIs(type(caught.exception.value), int)
            seen.append(number)
        self.assertTrue({None, 0, 1, 2, 3} <= set(seen))

    def test_which_is_told_first(self):
        bad, good = ("+ZI", "-ZZ"), ("-II",)
        for function, rest in ((read_alike, ()), (shows_read_alike, (0,))):
            for looks, other, number in ((bad, good, 1), (good, bad, 0), ((), good, 0), ((), bad, 1)):
                with self.assertRaises(Never) as caught:
                    function(TWO, looks, other, *rest)
                self.assertEqual(caught.exception.value, number)
            self.check_refused(function, (TWO, bad, ()) + rest, {2: ("ZZ",)}, BadLooks)
        # A look that can never be is told also behind one that reads.
        with self.assertRaises(Never):
            first_reading(TWO, ("+ZI", "-ZI"))

    def test_edges(self):
        full = Guard("wires 2\nguard +XX\nguard -ZZ")
        for looks in ((), ("+XI",), ("+ZI", "+XX", "-ZZ"), ("+XX",) * 99):
            self.assertEqual(reads(full, looks), ((), ()))
            self.assertIs(shows_reads(full, looks, ((), ())), True)
            self.assertIsNone(first_reading(full, looks))
        for function, rest in ((behind, ()), (reads, ()), (first_reading, ()), (read_alike, ((),))):
            self.check_refused(function, (full, ()) + rest, {1: ("+XX",) * 100}, BadLooks)
        self.assertIs(shows_reads(Guard("wires 1"), (), ((), (("+X", "-Z"),))), True)
        self.assertEqual(reads(Guard("wires 1"), ("-Y",)), (("+Y",), ()))
        self.assertIs(shows_reads(Guard("wires 1"), ("-Y",), (("-Y",), ())), True)

    def test_six_wires(self):
        for turn in range(21):
            chance = random.Random(turn)
            guard = random_guard(chance, 6, turn % 7)
            looks = [any_looks(chance, guard, 4 + turn % 5) for _ in range(2)]
            self.assertIs(shows_reads(guard, looks[0], reads(guard, looks[0])), True)
            told = read_alike(guard, looks[0], looks[1])
            self.assertIs(shows_read_alike(guard, looks[0], looks[1], told), True)
            self.assertEqual(behind(guard, looks[0]).wires, 6)

    def test_groups_alone_and_contraries(self):
        for turn in range(40):
            guard = some_guard(turn)
            chance = random.Random(turn)
            looks, other = any_looks(chance, guard, 4), any_looks(chance, guard, 3)
            mine = multiplied(chance, guard)
            self.assertIs(shows_reads(mine, looks, reads(guard, looks)), True)
            self.assertEqual(first_reading(guard, looks), first_reading(mine, looks))
            self.assertEqual(read_alike(guard, looks, other)[0], read_alike(mine, looks, other)[0])
            its = opposite(chance, guard)
            if groups_ahead(its, looks)[1] is None:
                self.assertEqual(reads(guard, looks), reads(its, looks))

    def test_wires_exchanged(self):
        for turn in range(40):
            guard = some_guard(turn)
            chance = random.Random(turn)
            wires = tuple(chance.sample(range(guard.wires), guard.wires))
            looks = any_looks(chance, guard, 4)
            along_wires = [word[0] + "".join(word[1 + wire] for wire in wires) for word in looks]
            other = exchanged(guard, wires)
            self.assertEqual(first_reading(guard, looks), first_reading(other, tuple(along_wires)))
            self.assertEqual(len(reads(guard, looks)[0]), len(reads(other, tuple(along_wires))[0]))

    def test_values_of_all_kinds(self):
        for looks in ((), ("+ZI",), ("+XI", "+IX")):
            self.check_junk(shows_reads, right_reads, (TWO, looks))
            self.check_junk(shows_read_alike, right_read_alike, (TWO, looks, ("+ZI",)))
        self.check_junk(shows_reads, right_reads, (Guard("wires 1\nguard +X"), ()))

    def test_wrong_arguments(self):
        rows = (BadLooks, lambda value: is_looks(value, 2))
        for function in (behind, reads, first_reading):
            self.check_wrong(function, (TWO, ("+ZI",)), [None, rows])
        self.check_wrong(shows_reads, (TWO, ("+ZI",), 0), [None, rows, None])
        self.check_wrong(read_alike, (TWO, ("+ZI",), ()), [None, rows, rows])
        self.check_wrong(shows_read_alike, (TWO, ("+ZI",), (), 0), [None, rows, rows, None])

    def test_looks_that_are_seen_lead_frames_along(self):
        for turn in range(30):
            guard = some_guard(turn)
            looks = any_looks(random.Random(turn), guard, 4)
            if all_went(guard.words, (), looks)[2] is None:
                self.assertEqual(group(behind(guard, looks)), group(along(guard, looks)))

    def test_names(self):
        for function, names, args in (
                (behind, "guard looks", (TWO, ())), (reads, "guard looks", (TWO, ())),
                (shows_reads, "guard looks value", (TWO, (), 0)), (first_reading, "guard looks", (TWO, ())),
                (read_alike, "guard looks other", (TWO, (), ())),
                (shows_read_alike, "guard looks other value", (TWO, (), (), 0))):
            self.check_names(function, names, args)
            self.assertEqual(function.__module__, "guardedwires.reading")
            self.assertIs(getattr(reading, function.__name__), function)
