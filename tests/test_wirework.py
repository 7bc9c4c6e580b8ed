"""Section 24: work done wire by wire."""

import random

from guardedwires import wirework
from guardedwires.errors import BadFrame, BadTurns, BadWish, NotDone, Wide
from guardedwires.frames import frame
from guardedwires.guards import Guard, exchanged
from guardedwires.wirework import done_by, keeps, kept_turns, shows_keeps, shows_kept_turns, shows_work, work
from tests import oracle_turns
from tests.checking import (Checking, all_guards, guard_of, junk, liked_pairs, multiplied, near, opposite, random_guard,
                            some_guard, some_near, turned_pairs)
from tests.oracle import by_letters, some_of
from tests.oracle_guards import passing_guard, right_frame
from tests.oracle_turns import (TURNS, all_keeping, can_be_done, frame_words, is_turns, is_work_wish, right_keeps,
                                right_kept_turns, right_work)

PAIR, TWIN = Guard("wires 2\nguard +XX\nguard +ZZ"), Guard("wires 2\nguard +ZZ")
FOUR = Guard("wires 4\nguard +XXXX\nguard +ZZZZ")
FIVE = Guard("wires 5\nguard +XZZXI\nguard +IXZZX\nguard +XIXZZ\nguard +ZXIXZ")
FIRM = (("+XX", "+ZI"),)
GUARDS = [PAIR, TWIN, FOUR, Guard("wires 3\nguard +ZZI\nguard +IZZ"),
          Guard("wires 3\nguard +XXX\nguard +ZZI\nguard +IZZ"),
          Guard("wires 1"), Guard("wires 2"), Guard("wires 3"), Guard("wires 1\nguard -Y"),
          Guard("wires 4\nguard +XZII\nguard +ZXII")]


def random_turns(chance, n):
    return tuple(chance.choice(TURNS) for _ in range(n))


def wishes_of(chance, guard, pairs, many):
    """Wishes: of turns that keep the guard, of frames turned by chance, and of no change."""
    words = frame_words(pairs)
    found = [tuple((k,) for k in range(len(words)))]
    for turns in chance.sample(sorted(all_keeping(guard.text)), min(many, len(all_keeping(guard.text)))):
        found.append(oracle_turns.done_by(guard, pairs, turns))
    for _ in range(many):
        found.append(told_as_wish(guard, pairs, turned_pairs(chance, guard)))
    return found


def told_as_wish(guard, pairs, others):
    """The wish for which the words of pairs become, beside the guard, those of others."""
    words, told = frame_words(pairs), []
    letters = {by_letters([words[k][1:] for k in numbers], guard.wires): numbers for numbers in some_of(words)}
    for word in frame_words(others):
        fit = [letters[its] for its in letters
               if by_letters([its, word[1:]], guard.wires) in oracle_turns.group_letters(guard)]
        told.append(fit[0])
    return tuple(told)


class Wirework(Checking):

    def test_keeps(self):
        for turn in range(160):
            chance = random.Random(turn)
            guard = some_guard(turn) if turn % 2 else chance.choice(GUARDS)
            turns = random_turns(chance, guard.wires)
            if turn % 3 == 0:
                turns = chance.choice(sorted(all_keeping(guard.text)))
            told = keeps(guard, turns)
            self.assertTrue(right_keeps(guard, turns, told), (guard.text, turns, told))
            self.assertEqual(told[0] == "keeps", turns in all_keeping(guard.text))
            self.assertEqual(told[0] == "keeps", oracle_turns.keep(guard, turns))
            others = [("out", number,
                       letters) for number in range(len(guard)) for letters in sorted(passing_guard(guard))]
            others = chance.sample(others, min(2, len(others))) + [("keeps", tuple((k,) for k in range(len(guard))))]
            self.check_told(keeps, shows_keeps, right_keeps, (guard, turns), others, most=40)
        self.assertEqual(keeps(Guard("wires 2"), ("YXZ", "ZXY")), ("keeps", ()))
        self.assertEqual(keeps(guard_of(3, ("-XII", "+IYI", "+IIZ")), ("XZY", "ZYX", "YXZ")),
                         ("keeps", ((0,), (1,), (2,))))

    def test_any_word_that_is_turned_out(self):
        for turn in range(60):
            guard = some_guard(4 + turn)
            turns = random_turns(random.Random(turn), guard.wires)
            values = [("out", number, letters) for number in range(-1, len(guard) + 1)
                      for letters in sorted(oracle_turns.all_letters(guard.wires))[::3]]
            self.check_shows(shows_keeps, right_keeps, (guard, turns), values)

    def test_where_letters_go(self):
        """By a turn X, Y, Z become its first, second and third sign."""
        goes = {"XYZ": "XYZ", "XZY": "XZY", "YXZ": "YXZ", "YZX": "YZX", "ZXY": "ZXY", "ZYX": "ZYX"}
        for turn, came in goes.items():
            for letter, its in zip("XYZ", came):
                for other in "XYZ":
                    guard = guard_of(2, ("+" + letter + "I", "+I" + other))
                    told = keeps(guard, (turn, "XYZ"))
                    self.assertEqual(told[0], "keeps" if its == letter else "out")
                    free = Guard("wires 2\nguard +" + letter + "X\nguard +" + {"X": "Y", "Y": "Z",
                            "Z": "X"}[letter] + "Z")
                    self.assertEqual(keeps(free, (turn, "XYZ"))[0] == "keeps", turn == "XYZ")

    def test_kept_turns(self):
        for guard in GUARDS + [some_guard(turn) for turn in range(40)]:
            told = kept_turns(guard)
            self.assertTrue(right_kept_turns(guard, told), (guard.text, told))
            self.assertEqual(told[0], len(all_keeping(guard.text)))
            self.assertIs(shows_kept_turns(guard, told), True)
        for guard in GUARDS[:7]:
            self.check_told(kept_turns, shows_kept_turns, right_kept_turns, (guard,), [], most=150)

    def test_any_turns_that_are_kept(self):
        for turn in range(30):
            guard, chance = (GUARDS + [some_guard(turn)])[turn % (len(GUARDS) + 1)], random.Random(turn)
            many, rows = kept_turns(guard)
            others = []
            for wire, row in enumerate(rows):
                able = sorted(all_keeping(guard.text))
                others.append(tuple(chance.choice([its for its in able if its[:wire + 1] == told[:wire + 1]]) for told in row))
            self.assertIs(shows_kept_turns(guard, (many, tuple(others))), True)
            others[0] = tuple(random_turns(chance, guard.wires) for _ in others[0])
            value = (many, tuple(others))
            self.assertIs(shows_kept_turns(guard, value), right_kept_turns(guard, value))
            value = (many, tuple(row[::-1] for row in rows))
            self.assertIs(shows_kept_turns(guard, value), all(len(row) == 1 for row in rows))

    def test_each_is_made_in_just_one_way(self):
        for guard in GUARDS[:5]:
            rows = kept_turns(guard)[1]
            made = [("XYZ",) * guard.wires]
            for row in rows:
                made = [tuple("".join(its["XYZ".index(sign)] for sign in turn) for turn, its in zip(one, other))
                        for one in made for other in row]
            self.assertEqual(len(made), len(set(made)))
            self.assertEqual(set(made), set(all_keeping(guard.text)))

    def test_five_and_six_wires(self):
        for turn in range(8):
            guard = random_guard(random.Random(turn), 5, turn % 6)
            self.assertTrue(right_kept_turns(guard, kept_turns(guard)))
        self.assertEqual([kept_turns(FIVE)[0], [len(row) for row in kept_turns(FIVE)[1]]],
                         [len(all_keeping(FIVE.text)), [3, 1, 1, 1, 1]])
        six = Guard("wires 6")
        self.assertEqual((kept_turns(six)[0], [len(row) for row in kept_turns(six)[1]]), (6 ** 6, [6] * 6))
        self.assertIs(shows_kept_turns(six, kept_turns(six)), True)
        six = guard_of(6, ("+XXXXXX", "+ZZZZZZ"))
        self.assertEqual(kept_turns(six), (6,
                                           (tuple((turn,) * 6 for turn in TURNS),) + tuple((("XYZ",) * 6,) for _ in range(5))))
        six = guard_of(6, ("+XXXXXX", "+ZZIIII", "+IZZIII", "+IIZZII", "+IIIZZI", "+IIIIZZ"))
        self.assertEqual([kept_turns(six)[0], len(kept_turns(six)[1][0]), len(kept_turns(six)[1][5])], [32, 2, 1])

    def test_done_by(self):
        for turn in range(80):
            chance = random.Random(turn)
            guard = (GUARDS + [some_guard(turn)])[turn % (len(GUARDS) + 1)]
            pairs = turned_pairs(chance, guard)
            turns = chance.choice(sorted(all_keeping(guard.text)))
            told = done_by(guard, pairs, turns)
            self.assertEqual(told, oracle_turns.done_by(guard, pairs, turns))
            self.assertTrue(is_work_wish(guard, pairs, told))
            self.assertEqual(told, done_by(guard, liked_pairs(chance, guard, pairs, True), turns))
            self.assertEqual(done_by(guard, pairs, ("XYZ",) * guard.wires), tuple((k,) for k in range(2 * guard.kept)))
        self.assertEqual(done_by(PAIR, (), ("ZYX", "ZYX")), ())

    def test_not_done(self):
        for turn in range(40):
            chance = random.Random(turn)
            guard = some_guard(4 + turn)
            for _ in range(5):
                turns = random_turns(chance, guard.wires)
                if turns not in all_keeping(guard.text):
                    with self.assertRaises(NotDone) as caught:
                        done_by(guard, frame(guard), turns)
                    self.assertIs(caught.exception.value, turns)

    def test_work(self):
        found = set()
        for turn in range(60):
            chance = random.Random(turn)
            guard = (GUARDS + [some_guard(turn)])[turn % (len(GUARDS) + 1)]
            if guard.wires == 4 and turn % 2:
                guard = random_guard(chance, 3, turn % 3)
            pairs = turned_pairs(chance, guard)
            for wish in wishes_of(chance, guard, pairs, 2):
                self.assertTrue(is_work_wish(guard, pairs, wish))
                told = work(guard, pairs, wish)
                self.assertTrue(right_work(guard, pairs, wish, told), (guard.text, pairs, wish, told))
                self.assertEqual(told[0] == "turns", can_be_done(guard, pairs, wish))
                self.assertIs(shows_work(guard, pairs, wish, told), True)
                found.add((told[0], guard.wires))
                if turn % 5 == 0:
                    others = [("turns", its) for its in chance.sample(sorted(all_keeping(guard.text)), 1)]
                    self.check_told(work, shows_work, right_work, (guard, pairs, wish), others, most=40)
        self.assertLessEqual({(name, many) for name in ("turns", "none") for many in (2, 3, 4)}, found)

    def test_any_turns_that_do_it(self):
        for guard in (TWIN, Guard("wires 2"), PAIR, GUARDS[3]):
            chance = random.Random(guard.wires)
            pairs = turned_pairs(chance, guard)
            for wish in wishes_of(chance, guard, pairs, 3):
                values = [("turns", turns) for turns in oracle_turns.product(TURNS, repeat=guard.wires)]
                self.check_shows(shows_work, right_work, (guard, pairs, wish), values)

    def test_longer_cases(self):
        """Cases may go on to further wires where they could be out already; they are shown to be cases."""
        wish = ((1,), (0,))
        told = ("none", ("wires",
                         (("out", 1, "ZI"), ("out", 0, "ZI"), ("out", 1, "ZI"), ("out", 0, "ZI"), ("out", 0, "ZI"),
                          ("out", 0, "ZI"))))
        self.assertIs(shows_work(TWIN, FIRM, wish, told), True)
        for place in range(6):
            cases = list(told[1][1])
            cases[place] = ("wires", (cases[place],) * 6)
            self.assertIs(shows_work(TWIN, FIRM, wish, ("none", ("wires", tuple(cases)))), True)
            cases[place] = ("wires", (cases[place],) * 6)
            self.assertIs(shows_work(TWIN, FIRM, wish, ("none", ("wires", tuple(cases)))), False)
            cases[place] = ("wires", (told[1][1][place],) * 5)
            self.assertIs(shows_work(TWIN, FIRM, wish, ("none", ("wires", tuple(cases)))), False)
            for number in range(-1, 4):
                for letters in ("ZI", "IZ", "ZZ", "II", "XX", "XI", "Z", 0):
                    cases[place] = ("out", number, letters)
                    value = ("none", ("wires", tuple(cases)))
                    self.assertIs(shows_work(TWIN, FIRM, wish, value), right_work(TWIN, FIRM, wish, value),
                                  (place, number, letters))
        for value in (("out", 0, "ZI"), ("none", ("out", 0, "ZI")), ("none", ("out", 1, "ZI")),
                      ("none", ("wires", ())), told[1]):
            self.assertIs(shows_work(TWIN, FIRM, wish, value), False)

    def test_cases_that_are_bent_at_any_depth(self):
        guard = GUARDS[3]
        pairs = frame(guard)
        wish = ((1,), (0,))
        told = work(guard, pairs, wish)
        self.assertEqual(told[0], "none")
        self.check_shows(shows_work, right_work, (guard, pairs, wish), some_near(told, 900))

    def test_guards_that_keep_nothing_or_have_no_word(self):
        for guard in (PAIR, Guard("wires 1\nguard +Z"), guard_of(5, net_words_of_five())):
            told = work(guard, (), ())
            self.assertEqual(told[0], "turns")
            self.assertTrue(right_work(guard, (), (), told))
            self.assertIs(shows_work(guard, (), (), ("turns", ("XYZ",) * guard.wires)), True)
        free = Guard("wires 1")
        pairs = (("+X", "+Z"),)
        for wish in (((0,), (1,)), ((1,), (0,)), ((0, 1), (1,)), ((0,), (0, 1)), ((1,), (0, 1)), ((0, 1), (0,))):
            self.assertEqual(work(free, pairs, wish)[0], "turns")
        self.check_refused(work, (free, pairs, ((0,), (1,))), {2: ((0,), (0,))}, BadWish)

    def test_five_wires(self):
        for turn in range(10):
            chance = random.Random(turn)
            guard = FIVE if turn == 0 else random_guard(chance, 5, 1 + turn % 4)
            pairs = turned_pairs(chance, guard)
            for wish in wishes_of(chance, guard, pairs, 1):
                told = work(guard, pairs, wish)
                self.assertTrue(right_work(guard, pairs, wish, told))
                self.assertIs(shows_work(guard, pairs, wish, told), True)
                self.assertEqual(told[0] == "turns", can_be_done(guard, pairs, wish))

    def test_wide(self):
        guard = random_guard(random.Random(1), 6, 5)
        pairs = frame(guard)
        for function, more in ((work, ()), (shows_work, (None,))):
            with self.assertRaises(Wide) as caught:
                function(guard, pairs, ((0,), (1,)), *more)
            self.assertEqual((caught.exception.value, type(caught.exception.value)), (5, int))
            self.check_refused(function, (TWIN, FIRM, ((0,), (1,))) + more, {2: ((0,),)}, BadWish)
            with self.assertRaises(BadWish):
                function(guard, pairs, ((0,), (0,)), *more)
            with self.assertRaises(BadFrame):
                function(guard, (), (), *more)
        self.assertEqual(done_by(guard, pairs, ("XYZ",) * 6), ((0,), (1,)))

    def test_bases_and_contraries_and_wires_exchanged(self):
        for turn in range(30):
            chance = random.Random(turn)
            guard = chance.choice(GUARDS[:5] + [some_guard(turn)])
            wires = tuple(chance.sample(range(guard.wires), guard.wires))
            many, rows = kept_turns(guard)
            for other in (multiplied(chance, guard), opposite(chance, guard)):
                self.assertIs(shows_kept_turns(other, (many, rows)), True)
                turns = random_turns(chance, guard.wires)
                self.assertEqual(keeps(guard, turns)[0], keeps(other, turns)[0])
            other = exchanged(guard, wires)
            self.assertEqual(kept_turns(other)[0], many)
            pairs = frame(guard)
            mine = tuple(tuple(word[0] + "".join(word[1 + wire] for wire in wires) for word in pair) for pair in pairs)
            for wish in wishes_of(chance, guard, pairs, 2):
                told = work(guard, pairs, wish)
                self.assertEqual(told[0], work(other, mine, wish)[0])
                if told[0] == "turns":
                    self.assertIs(shows_work(other, mine, wish, ("turns", tuple(told[1][wire] for wire in wires))),
                                  True)

    def test_values_of_all_kinds(self):
        self.check_junk(shows_keeps, right_keeps, (PAIR, ("ZYX", "ZYX")))
        self.check_junk(shows_keeps, right_keeps, (PAIR, ("ZYX", "XYZ")))
        self.check_junk(shows_kept_turns, right_kept_turns, (PAIR,))
        for wish in (((0, 1), (1,)), ((1,), (0,))):
            self.check_junk(shows_work, right_work, (TWIN, FIRM, wish))
            for value in junk():
                self.check_shows(shows_work, right_work, (TWIN, FIRM, wish), [
                    ("none", ("wires", value)), ("none", ("wires", (value,) * 6)), ("none", ("out", value, "ZI")),
                    ("turns", (value, "XYZ")), ("none", ("wires", (("out", 0, value),) * 6))])
        many, rows = kept_turns(PAIR)
        for value in junk():
            self.check_shows(shows_kept_turns, right_kept_turns, (PAIR,),
                             [(many, value), (value, rows), (many, (value, rows[1])), (many, rows[:1] + (value,))])
            self.check_shows(shows_keeps, right_keeps, (PAIR, ("ZYX", "XYZ")),
                             [("out", value, "XX"), ("out", 0, value), ("keeps", (value, (0,)))])

    def test_wrong_arguments(self):
        turns = (BadTurns, lambda value: is_turns(value, 2))
        pairs = (BadFrame, lambda value: right_frame(TWIN, value))
        wish = (BadWish, lambda value: is_work_wish(TWIN, FIRM, value))
        self.check_wrong(keeps, (TWIN, ("XYZ", "XYZ")), [None, turns])
        self.check_wrong(shows_keeps, (TWIN, ("XYZ", "XYZ"), 0), [None, turns, None])
        self.check_wrong(done_by, (TWIN, FIRM, ("XYZ", "XYZ")), [None, pairs, turns])
        self.check_wrong(work, (TWIN, FIRM, ((0,), (1,))), [None, pairs, wish])
        self.check_wrong(shows_work, (TWIN, FIRM, ((0,), (1,)), 0), [None, pairs, wish, None])
        for value in list(near(("ZYX", "XYZ"))) + ["XYZ", ("XYZ",), ("XYZ",) * 3, ["XYZ", "XYZ"], ("XYZ", "XXZ"),
                                                   ("xyz", "XYZ"), ("IXY", "XYZ")]:
            if not is_turns(value, 2):
                self.check_refused(keeps, (TWIN, ("XYZ", "XYZ")), {1: value}, BadTurns)
                self.check_refused(done_by, (TWIN, FIRM, ("XYZ", "XYZ")), {2: value}, BadTurns)
        for value in list(near(((0, 1), (1,)))) + [((0,), (1,), ()), ((0,), ()), ((), ()), ((0,), (2,)),
                                                   ((1, 0), (1,)), ((True,), (0,)), ((0, 0), (1,))]:
            if not is_work_wish(TWIN, FIRM, value):
                self.check_refused(work, (TWIN, FIRM, ((0,), (1,))), {2: value}, BadWish)
        self.check_refused(done_by, (TWIN, FIRM, ("XYZ", "XYZ")), {1: (), 2: ()}, BadFrame)
        # What would not be done is told behind the errors of both arguments.
        self.check_refused(done_by, (TWIN, FIRM, ("ZYX", "XYZ")), {1: (("+ZI", "+ZI"),)}, BadFrame)

    def test_names(self):
        for function, names, args in (
                (keeps, "guard turns", (PAIR, ("XYZ", "XYZ"))),
                                      (shows_keeps, "guard turns value", (PAIR, ("XYZ", "XYZ"), 0)),
                (kept_turns, "guard", (PAIR,)), (shows_kept_turns, "guard value", (PAIR, 0)),
                (done_by, "guard pairs turns", (TWIN, FIRM, ("XYZ", "XYZ"))),
                                      (work, "guard pairs wish", (TWIN, FIRM, ((0,), (1,)))),
                (shows_work, "guard pairs wish value", (TWIN, FIRM, ((0,), (1,)), 0))):
            self.check_names(function, names, args)
            self.assertEqual(function.__module__, "guardedwires.wirework")
            self.assertIs(getattr(wirework, function.__name__), function)

    def test_all_small_guards(self):
        for guard in all_guards(1) + all_guards(2)[::3]:
            told = kept_turns(guard)
            self.assertTrue(right_kept_turns(guard, told))


def net_words_of_five():
    return ["+XZIIZ", "+ZXZII", "+IZXZI", "+IIZXZ", "+ZIIZX"]
