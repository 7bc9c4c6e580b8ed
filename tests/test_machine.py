"""Sections 27 and 28: a machine, its blocks and copies."""

import inspect
import random

from guardedwires import errors
from guardedwires.errors import (BadGate, BadLetters, BadLot, BadName, BadWord, Full, Held, Never, NoMark,
                                 NothingToRedo,
                                 NothingToUndo, NotKept, NoTrial, Wide, WireError)
from guardedwires.guards import Guard, exchanged, group, led_guard
from guardedwires.journals import journal
from guardedwires.machine import Machine
from tests.checking import (Checking, guard_of, junk, multiplied, near, opposite, random_gates, random_guard,
                            random_letters, random_word, some_guard, some_near)
from tests.oracle import all_gates, all_lots, all_words, contrary, is_in, is_letters, is_numbers, is_word, led
from tests.oracle_live import Model, Refused
from tests.oracle_turns import is_name

FOUR = Guard("wires 4\nguard +XXXX\nguard +ZZZZ")
NAMES = ["a", "b", "zz", "abcdefgh", "c", "d", "e"]


def kept_of(model):
    return sorted(word for word in all_words(model.wires) if model.is_kept(word))


def random_deed(chance, model):
    """(name, arguments) of a deed that is refused now and then."""
    n = model.wires
    name = chance.choice(["mark"] * 4 + ["gate"] * 3 + ["look"] * 5 + ["flip", "flip", "lose", "bring"])
    if name == "mark":
        words = kept_of(model) if chance.random() < 0.8 and n < 5 else []
        return name, (chance.choice(NAMES), chance.choice(words) if words else random_word(chance, n))
    if name == "gate":
        return name, random_gates(chance, n, 1)
    if name == "look":
        kept = kept_of(model) if n < 5 else []
        marked = [word for words in model.marks.values() for word in sorted(words)]
        return name, (chance.choice([random_word(chance, n)] * 3 + [chance.choice(some) for some in (kept, marked,
                sorted(model.those)) if some]),)
    if name == "flip":
        return name, (random_letters(chance, n),)
    if name == "lose":
        return name, (chance.choice(all_lots(n)[:1 + 2 * n]),)
    size = chance.choice([1, 1, 2])
    return name, (random_guard(chance, size, chance.randrange(size + 1)),)


def refused(model, name, args):
    """What refuses this deed: (name of the error, value), or None; the model has done it if nothing does."""
    try:
        model.do(name, *args)
    except Refused as why:
        return why.told
    return None


class Machines(Checking):

    def check_alike(self, machine, model, deeds=None):
        """That the machine is as the model is."""
        n = model.wires
        self.assertIsInstance(machine.guard, Guard)
        self.assertEqual((machine.guard.wires, frozenset(group(machine.guard))), (n, model.those))
        self.assertEqual([name for name, _ in machine.marks], sorted(model.marks))
        for name, word in machine.marks:
            self.assertIn(word, model.marks[name])
        self.assertEqual(machine.read, tuple(sorted(model.read.items())))
        self.assertEqual(machine.spoilt, tuple(sorted(model.spoilt)))
        self.assertEqual(len(machine), len(model.marks))
        for name in NAMES:
            self.assertIs(name in machine, name in model.marks)
        if deeds is not None:
            self.assertEqual(machine.done, deeds)

    def told_of(self, machine):
        return (machine.first, machine.guard, machine.marks, machine.read, machine.spoilt, machine.done, len(machine),
                journal(machine))

    def do_both(self, machine, model, name, args):
        """Do the deed on both; whether it stands. One that is refused is so with the right value, and changes nothing."""
        ahead, was = self.told_of(machine), model.copy()
        why = refused(model, name, args)
        if why is None:
            self.assertIsNone(getattr(machine, name)(*args))
            return True
        with self.assertRaises(WireError, msg=(name, args)) as caught:
            getattr(machine, name)(*args)
        self.assertIs(type(caught.exception), getattr(errors, why[0]))
        self.assertEqual(caught.exception.value, why[1])
        self.assertEqual(self.told_of(machine), ahead)
        self.assertEqual((model.those, model.marks, model.read, model.spoilt),
                         (was.those, was.marks, was.read, was.spoilt))
        return False

    def begun(self, turn, most=3):
        guard = some_guard(turn, most)
        return Machine(guard), Model(guard.wires, guard.words)

    def test_deeds(self):
        stood, refusals = set(), set()
        for turn in range(150):
            chance = random.Random(turn)
            machine, model = self.begun(turn)
            first, done = machine.first, 0
            self.check_alike(machine, model, 0)
            for _ in range(25):
                name, args = random_deed(chance, model)
                does = self.do_both(machine, model, name, args)
                done += does
                (stood if does else refusals).add(name)
                self.check_alike(machine, model, done)
                self.check_asked(chance, machine, model)
            self.assertIs(machine.first, first)
        self.assertEqual(stood, {"mark", "gate", "look", "flip", "lose", "bring"})
        self.assertEqual(refusals, {"mark", "look", "lose", "bring"})

    def check_asked(self, chance, machine, model):
        """That off and told_by tell what is so."""
        lot = chance.choice(all_lots(model.wires))
        self.assertEqual(machine.told_by(lot), model.told_by(lot))
        for name in model.marks:
            told = machine.off(name, lot)
            self.assertTrue(model.right_off(name, lot, told), (name, lot, told))
            self.assertIs(machine.shows_off(name, lot, told), True)

    def test_the_beginning(self):
        for turn in range(30):
            guard = some_guard(turn)
            machine = Machine(guard)
            self.assertIs(machine.first, guard)
            self.assertEqual(group(machine.guard), group(guard))
            self.assertEqual((machine.marks, machine.read, machine.spoilt, machine.done, len(machine)),
                             ((), (), (), 0, 0))
            for value in junk():
                self.assertIs(value in machine, False)

    def test_in(self):
        machine = Machine(FOUR)
        machine.mark("a", "+XXII")
        machine.mark("bc", "+ZIZI")
        self.assertEqual(["a" in machine, "bc" in machine, "b" in machine, "" in machine], [True, True, False, False])
        for value in junk() + [("a",), ["a"], ("a", "+XXII"), "+XXII", b"a", 0, "a "]:
            self.assertIs(value in machine, False)
        machine.look("+ZZII")
        self.assertEqual(["a" in machine, "bc" in machine, len(machine), machine.spoilt, machine.read],
                         [True, True, 2, (), ()])
        machine.look("-XXII")
        self.assertEqual(["a" in machine, "bc" in machine, len(machine), machine.spoilt, machine.read],
                         [False, False, 0, ("bc",), (("a", "-"),)])

    def test_marks(self):
        machine = Machine(FOUR)
        self.assertIsNone(machine.mark("b", "+XXII"))
        machine.mark("a", "-XXII")
        machine.mark("c", "+IIXX")
        self.assertEqual([name for name, _ in machine.marks], ["a", "b", "c"])
        self.assertEqual((len(machine), machine.done), (3, 3))
        machine.look("+IIXX")
        self.assertEqual((machine.read, machine.marks), ((("a", "-"), ("b", "+"), ("c", "+")), ()))
        for name in "abc":
            self.check_error(Held, name, machine.mark, name, "+ZIZI")
        machine.mark("z", "+ZZII")
        self.assertEqual([name for name, _ in machine.marks], ["z"])

    def check_error(self, error, value, function, *args):
        with self.assertRaises(error, msg=(function, args)) as caught:
            function(*args)
        self.assertIs(type(caught.exception), error)
        self.assertEqual(caught.exception.value, value)
        self.assertIs(type(caught.exception.value), type(value))

    def test_six_names(self):
        """Names that are kept, read or spoilt are six at most; a name that one of these has is held."""
        machine = Machine(Guard("wires 6"))
        for name, word in zip("abcdef", ("+XIIIII", "+ZIIIII", "+IXIIII", "+IZIIII", "+IIXIII", "-YIIIII")):
            machine.mark(name, word)
        self.check_error(Full, 6, machine.mark, "g", "+IIXIII")
        machine.look("-ZIIIII")
        self.assertEqual((machine.read, machine.spoilt), ((("b", "-"),), ("a", "f")))
        self.check_error(Full, 6, machine.mark, "g", "+IIXIII")
        for name in "abcdef":
            self.check_error(Held, name, machine.mark, name, "+IIXIII")
        self.check_error(Full, 6, machine.mark, "g", None)
        self.check_error(BadName, "", machine.mark, "", None)
        self.check_error(Held, "a", machine.mark, "a", None)
        machine.undo()
        machine.undo()
        machine.mark("g", "+IIXIII")
        self.assertEqual((len(machine), machine.done), (6, 6))

    def test_gates(self):
        for turn in range(40):
            chance = random.Random(turn)
            guard = some_guard(turn)
            machine, gates = Machine(guard), random_gates(chance, guard.wires, 6)
            for gate in gates:
                self.assertIsNone(machine.gate(gate))
            self.assertEqual(group(machine.guard), group(led_guard(guard, gates)))
            self.assertEqual(machine.done, 6)
        for gate in sorted(all_gates(2)):
            machine = Machine(Guard("wires 2"))
            for name, word in zip("abcd", ("+XI", "+ZI", "+IX", "-YZ")):
                machine.mark(name, word)
            machine.gate(gate)
            self.assertEqual(machine.marks, tuple((name, led(word, (gate,))) for name,
                                                  word in zip("abcd", ("+XI", "+ZI", "+IX", "-YZ"))))

    def test_flip(self):
        machine = Machine(FOUR)
        machine.mark("a", "+XXII")
        machine.flip("ZIII")
        self.assertEqual(group(machine.guard), group(guard_of(4, ("-XXXX", "+ZZZZ"))))
        self.assertIn(machine.marks, ((("a", "-XXII"),), (("a", "+IIXX"),)))
        machine.flip("IIII")
        machine.flip("ZIII")
        self.assertEqual((group(machine.guard), machine.done), (group(FOUR), 4))

    def test_looks(self):
        machine = Machine(FOUR)
        machine.mark("x", "+XXII")
        machine.mark("z", "+ZIZI")
        for word in group(FOUR):
            self.assertIsNone(machine.look(word))
            self.check_error(Never, contrary(word), machine.look, contrary(word))
        self.assertEqual((group(machine.guard), machine.done, len(machine)), (group(FOUR), 6, 2))
        machine.look("-XIII")
        self.assertIn("-XIII", machine.guard)
        self.assertEqual(machine.guard.kept, 2)
        self.check_error(Never, "+XIII", machine.look, "+XIII")

    def test_kept_looks(self):
        """Of words alike with the look, or with its contrary, the sign is read; what crosses it is spoilt; others stay."""
        machine = Machine(Guard("wires 3\nguard +ZZI"))
        for name, word in (("p", "+ZII"), ("q", "-IZI"), ("r", "+XXI"), ("s", "+IIX"), ("t", "-XXZ"), ("u", "+ZIX")):
            machine.mark(name, word)
        machine.look("-IZI")
        self.assertEqual(machine.read, (("p", "-"), ("q", "+")))
        self.assertEqual(machine.spoilt, ("r", "t"))
        self.assertEqual([name for name, _ in machine.marks], ["s", "u"])
        self.assertEqual(machine.guard.kept, 1)
        # The word of u is alike now to the contrary of that of s.
        self.assertEqual((machine.off("u", (0, 1)), machine.off("s", (0, 1))), ("-IIX", "+IIX"))
        machine.look("+IIX")
        self.assertEqual(machine.read, (("p", "-"), ("q", "+"), ("s", "+"), ("u", "-")))

    def test_lose(self):
        machine = Machine(FOUR)
        machine.mark("a", "+XXII")
        machine.mark("b", "-ZIZI")
        machine.lose((0,))
        # No word of the group has I at wire 0, so one word stands now, and one more is kept.
        self.assertEqual((machine.spoilt, len(machine), machine.guard.kept), ((), 2, 3))
        self.assertIn("+ZIII", machine.guard)
        self.assertEqual([word[1] for _, word in machine.marks], ["I", "I"])
        machine.lose((1, 2, 3))
        self.assertEqual((machine.spoilt, machine.guard.kept, machine.marks), (("a", "b"), 0, ()))
        self.assertEqual(group(machine.guard), group(guard_of(4, ("+ZIII", "+IZII", "+IIZI", "+IIIZ"))))
        # More is kept behind it than ahead.
        machine = Machine(Guard("wires 2\nguard +XX\nguard +ZZ"))
        machine.lose((1,))
        self.assertEqual((machine.guard.kept, group(machine.guard)), (1, ("+II", "+IZ")))

    def test_lots_that_may_be_lost(self):
        """Of these no mark is spoilt."""
        for turn in range(60):
            chance = random.Random(turn)
            guard = random_guard(chance, 4, 1 + turn % 4)
            model = Model(4, guard.words)
            kept = kept_of(model)
            for lot in all_lots(4)[1:]:
                may = not any(all(letter == "I" or wire in lot for wire,
                                  letter in enumerate(word[1:])) for word in kept)
                machine = Machine(guard)
                for name, word in zip("abcdef", chance.sample(kept, min(6, len(kept)))):
                    machine.mark(name, word)
                many = len(machine)
                machine.lose(lot)
                if may:
                    self.assertEqual((machine.spoilt, len(machine)), ((), many))
                self.assertEqual(len(machine) + len(machine.spoilt), many)

    def test_bring(self):
        machine, model = Machine(Guard("wires 1\nguard -Y")), Model(1, ("-Y",))
        for guard in (Guard("wires 2\nguard +XX"), Guard("wires 1"), Guard("wires 2\nguard +ZI\nguard -IX")):
            self.assertTrue(self.do_both(machine, model, "bring", (guard,)))
            self.check_alike(machine, model)
            if guard.wires == 1:
                machine.mark("a", "+IIIX")
                model.do_mark("a", "+IIIX")
        self.assertEqual(machine.guard.wires, 6)
        for guard in (Guard("wires 1"), Guard("wires 1\nguard +Z"), Guard("wires 6")):
            self.assertFalse(self.do_both(machine, model, "bring", (guard,)))
            self.check_error(Wide, 6, machine.bring, guard)
        self.check_error(Wide, 6, Machine(FOUR).bring, Guard("wires 3"))
        self.assertEqual(machine.off("a", (0, 1, 2)), "+IIIXII")
        machine = Machine(FOUR)
        machine.mark("a", "-XXII")
        guard = guard_of(2, ("-XZ", "+ZX"))
        machine.bring(guard)
        self.assertEqual(frozenset(group(machine.guard)),
                         frozenset(group(guard_of(6, ("+XXXXII", "+ZZZZII", "-IIIIXZ", "+IIIIZX")))))
        self.assertIn("a", machine)

    def test_six_wires(self):
        for turn in range(25):
            chance = random.Random(turn)
            guard = random_guard(chance, 6, turn % 7)
            machine, model = Machine(guard), Model(6, guard.words)
            for _ in range(6):
                self.do_both(machine, model, *random_deed(chance, model))
                self.check_alike(machine, model)
                self.check_asked(chance, machine, model)

    def test_off(self):
        for turn in range(60):
            chance = random.Random(turn)
            guard = random_guard(chance, 3, turn % 3)
            machine, model = Machine(guard), Model(3, guard.words)
            word = chance.choice(kept_of(model))
            machine.mark("a", word)
            model.do_mark("a", word)
            for lot in all_lots(3):
                for value in sorted(all_words(3))[turn % 3::3] + [None, 0, "", word, [word], (word,), "I", "XXX"]:
                    self.assertIs(machine.shows_off("a", lot, value), model.right_off("a", lot, value))
                self.assertEqual(machine.told_by(lot), model.told_by(lot))
        machine = Machine(FOUR)
        machine.mark("a", "+XXII")
        self.assertEqual((machine.off("a", (0, 1)), machine.off("a", (0, 2)), machine.off("a", ())),
                         ("+IIXX", None, "+XXII"))
        self.assertEqual((machine.told_by((0, 1)), machine.told_by((2, 3)), machine.told_by((0, 2)),
                          machine.told_by(())), (("a",), ("a",), (), ()))
        for value in junk() + list(near("+IIXX")):
            self.assertIs(machine.shows_off("a", (0, 1), value), value == "+IIXX")
            self.assertIs(machine.shows_off("a", (0, 2), value), value is None)
        self.assertIs(machine.shows_off("a", (), "+IIXX"), True)
        self.assertEqual(machine.done, 1)

    def test_wrong_arguments(self):
        machine = Machine(FOUR)
        machine.mark("a", "+XXII")
        machine.mark("gone", "+XXII")
        ahead = self.told_of(machine)
        checks = {"name": (BadName, is_name), "word": (BadWord, lambda value: is_word(value, 4)),
                  "gate": (BadGate, lambda value: is_in(value, all_gates(4))),
                  "letters": (BadLetters, lambda value: is_letters(value, 4)),
                  "lot": (BadLot, lambda value: is_numbers(value, 4))}
        for function, args, kinds in ((machine.gate, ("h 0",), ["gate"]), (machine.look, ("+XXXX",), ["word"]),
                                      (machine.flip, ("IIII",), ["letters"]),
                                      (machine.told_by, ((0,),), ["lot"]), (machine.lose, ((0,),), ["lot"])):
            self.check_wrong(function, args, [checks[kind] for kind in kinds])
        machine = Machine(FOUR)
        machine.mark("a", "+XXII")
        machine.mark("gone", "+XXII")
        mark = (NoMark, lambda value: type(value) is str and value in ("a", "gone"))
        self.check_wrong(machine.off, ("a", (0,)), [mark, checks["lot"]])
        self.check_wrong(machine.shows_off, ("a", (0,), 0), [mark, checks["lot"], None])
        self.assertEqual(self.told_of(machine)[1:], ahead[1:])
        for value in junk() + list(near("abc")) + ["abcdefghi", "A", "a1", "_", "a b", "a\n"]:
            if not is_name(value):
                self.check_refused(machine.mark, (value, "+XXII"), {0: value}, BadName)
                self.check_refused(machine.mark, (value, None), {0: value, 1: None}, BadName)
        for value in junk() + ["+XXI", "XXII", "+XXIIX", "+xxii", "+XXII\n"]:
            if not is_word(value, 4):
                self.check_refused(machine.mark, ("z", value), {1: value}, BadWord)
        for word in sorted(all_words(4)):
            if not Model(4, FOUR.words).is_kept(word) and word[1] in "XI":
                self.check_error(NotKept, word, machine.mark, "z", word)
        for value in ((), [], (4,), (1, 0), (0, 0), (True,), [0], 0, "0", None):
            self.check_refused(machine.lose, (value,), {0: value}, BadLot)
        self.assertEqual(machine.told_by(()), ())
        for value in ("h 4", "h", "h  0", "cx 0 0", "cx 0", "H 0", "h 0 ", "h 00", "h -1", "swap 0 4", ("h 0",),
                      ["h 0"], "h 0\n", ""):
            self.check_refused(machine.gate, (value,), {0: value}, BadGate)
        self.assertEqual(self.told_of(machine)[1:], ahead[1:])

    def test_shows_off_near(self):
        machine = Machine(FOUR)
        machine.mark("a", "+XXII")
        for value in some_near("+XXII", 300):
            self.assertIs(machine.shows_off("a", (), value), value in ("+XXII", "+IIXX", "-YYZZ", "-ZZYY"))

    def test_undo_and_redo(self):
        """A row of deeds, each taken back and done again at random: the machine is where the deeds that stand led."""
        for turn in range(60):
            chance = random.Random(turn)
            machine, model = self.begun(turn)
            past, ahead = [model], []
            for _ in range(60):
                kind = chance.randrange(10)
                if kind < 3:
                    if len(past) > 1:
                        self.assertIsNone(machine.undo())
                        ahead.append(past.pop())
                    else:
                        self.check_error(NothingToUndo, None, machine.undo)
                elif kind < 6:
                    if ahead:
                        self.assertIsNone(machine.redo())
                        past.append(ahead.pop())
                    else:
                        self.check_error(NothingToRedo, None, machine.redo)
                else:
                    came = past[-1].copy()
                    if self.do_both(machine, came, *random_deed(chance, came)):
                        past.append(came)
                        ahead = []
                self.check_alike(machine, past[-1], len(past) - 1)
            while len(past) > 1:
                machine.undo()
                ahead.append(past.pop())
                self.check_alike(machine, past[-1], len(past) - 1)
            self.check_error(NothingToUndo, None, machine.undo)
            self.assertIs(machine.guard.text, machine.first.text)
            while ahead:
                machine.redo()
                past.append(ahead.pop())
                self.check_alike(machine, past[-1], len(past) - 1)
            self.check_error(NothingToRedo, None, machine.redo)

    def test_redo_behind_refused_and_new_deeds(self):
        machine = Machine(FOUR)
        machine.mark("a", "+XXII")
        machine.gate("h 0")
        machine.undo()
        for name, args in (("mark", ("a", "+XXII")), ("mark", ("b", "+XIII")), ("gate", ("h 9",)),
                           ("look", ("-XXXX",)), ("look", (0,)), ("flip", ("",)),
                           ("lose", ((),)), ("bring", (Guard("wires 3"),)), ("off", ("z", ())),
                           ("shows_off", ("z", (), 0)), ("told_by", (0,)), ("keep", ())):
            with self.assertRaises(WireError):
                getattr(machine, name)(*args)
        machine.redo()
        self.assertEqual((machine.done, journal(machine).split("\n")[-1]), (2, "gate h 0"))
        machine.undo()
        machine.off("a", ())
        machine.told_by((0,))
        machine.redo()
        machine.undo()
        # A deed that changes nothing is one that stands, too.
        machine.look("+XXXX")
        self.check_error(NothingToRedo, None, machine.redo)
        machine.undo()
        machine.undo()
        self.assertEqual((machine.done, len(machine)), (0, 0))
        machine.redo()
        machine.redo()
        self.assertEqual(journal(machine).split("\n")[-2:], ["mark a +XXII", "look +XXXX"])

    def test_many_deeds(self):
        machine, model = Machine(FOUR), Model(4, FOUR.words)
        machine.mark("a", "+XXII")
        for _ in range(1500):
            machine.flip("ZIII")
        self.assertEqual((machine.done, group(machine.guard)), (1501, group(FOUR)))
        for _ in range(1501):
            machine.undo()
        self.check_alike(machine, model, 0)
        for _ in range(1500):
            machine.redo()
        self.assertEqual((machine.done, group(machine.guard)), (1500, group(guard_of(4, ("-XXXX", "+ZZZZ")))))
        self.assertTrue(machine == machine.copy())
        machine.redo()
        self.assertEqual(group(machine.guard), group(FOUR))

    def test_names_of_arguments(self):
        machine = Machine(guard=FOUR)
        wanted = {"mark": "name word", "gate": "gate", "look": "word", "flip": "letters", "lose": "lot",
                  "bring": "guard", "off": "name lot",
                  "shows_off": "name lot value", "told_by": "lot", "undo": "", "redo": "", "trial": "", "keep": "",
                  "tried": "look keep", "copy": ""}
        for name, names in wanted.items():
            self.assertIn(name, vars(Machine))
            self.assertEqual(list(inspect.signature(getattr(machine, name)).parameters),
                             names.split(" ") if names else [])
        self.assertIs(inspect.signature(machine.tried).parameters["keep"].kind, inspect.Parameter.KEYWORD_ONLY)
        self.assertIs(inspect.signature(machine.tried).parameters["keep"].default, False)
        self.assertEqual(Machine.__module__, "guardedwires.machine")
        machine.mark(word="+XXII", name="a")
        self.assertEqual([machine.gate(gate="h 0"), machine.look(word="+XIII"), machine.flip(letters="XIII"),
                          machine.lose(lot=(3,)),
                          machine.bring(guard=Guard("wires 1")), machine.done], [None] * 5 + [6])
        self.assertEqual(machine.told_by(lot=()), ())
        machine = Machine(FOUR)
        machine.mark("a", "+XXII")
        self.assertEqual((machine.off(lot=(0, 1), name="a"), machine.shows_off(value="+IIXX", lot=(0, 1), name="a")),
                         ("+IIXX", True))
        self.assertIs(machine.tried(look=lambda its: its), machine)
        with self.assertRaises(TypeError):
            machine.tried(len, True)

    def test_bases_and_contraries_and_wires_exchanged(self):
        """Machines that begin with guards of one group are alike behind the same deeds, but for what is any."""
        for turn in range(30):
            chance = random.Random(turn)
            guard = random_guard(chance, 4, turn % 5)
            wires = tuple(chance.sample(range(4), 4))
            along = lambda word: word[0] + "".join(word[1 + wire] for wire in wires)
            one, other, moved = Machine(guard), Machine(multiplied(chance, guard)), Machine(exchanged(guard, wires))
            model = Model(4, guard.words)
            for _ in range(10):
                name, args = random_deed(chance, model)
                if name in ("mark", "look", "flip", "lose") and refused(model, name, args) is None:
                    for machine in (one, other):
                        getattr(machine, name)(*args)
                    if name == "lose":
                        its = (tuple(sorted(wires.index(wire) for wire in args[0])),)
                    elif name == "flip":
                        its = ("".join(args[0][wire] for wire in wires),)
                    else:
                        its = args[:-1] + (along(args[-1]),)
                    getattr(moved, name)(*its)
            for machine in (other, moved):
                self.assertEqual((one.read, one.spoilt, len(one), one.guard.kept),
                                 (machine.read, machine.spoilt, len(machine), machine.guard.kept))
            self.assertEqual(group(one.guard), group(other.guard))
            self.assertEqual(group(exchanged(one.guard, wires)), group(moved.guard))

    def test_contraries(self):
        for turn in range(30):
            chance = random.Random(turn)
            guard = random_guard(chance, 4, turn % 5)
            one, other = Machine(guard), Machine(opposite(chance, guard))
            word = chance.choice(kept_of(Model(4, guard.words)) or ["+XIII"])
            if guard.kept:
                for machine in (one, other):
                    machine.mark("a", word)
                    machine.lose((turn % 4,))
            self.assertEqual((one.spoilt, len(one), one.guard.kept), (other.spoilt, len(other), other.guard.kept))


class Blocks(Checking):

    def setUp(self):
        self.machine = Machine(FOUR)
        self.machine.mark("a", "+XXII")
        self.machine.gate("h 0")
        self.machine.gate("h 0")
        self.machine.undo()

    def told(self, machine=None):
        machine = machine or self.machine
        return (machine.first, machine.guard, machine.marks, machine.read, machine.spoilt, machine.done,
                journal(machine))

    def check_as_it_was(self, ahead):
        """That it is as it was, also in what can be undone and done again."""
        self.assertEqual(self.told(), ahead)
        self.machine.redo()
        with self.assertRaises(NothingToRedo):
            self.machine.redo()
        self.machine.undo()
        self.assertEqual(self.told(), ahead)
        self.machine.undo()
        self.machine.undo()
        with self.assertRaises(NothingToUndo):
            self.machine.undo()
        self.machine.redo()
        self.machine.redo()
        self.assertEqual(self.told(), ahead)

    def test_blocks_that_are_not_kept(self):
        ahead = self.told()
        with self.machine.trial() as held:
            self.assertIs(held, self.machine)
            self.machine.look("+XIII")
            self.machine.bring(Guard("wires 1"))
            self.assertEqual(self.machine.done, 4)
        self.check_as_it_was(ahead)
        with self.machine.trial():
            pass
        self.check_as_it_was(ahead)

    def test_undo_past_the_beginning_of_a_block(self):
        ahead = self.told()
        with self.machine.trial():
            self.machine.redo()
            self.machine.undo()
            self.machine.undo()
            self.machine.undo()
            self.assertEqual(self.machine.done, 0)
            with self.assertRaises(NothingToUndo):
                self.machine.undo()
            self.machine.lose((0,))
            with self.assertRaises(NothingToRedo):
                self.machine.redo()
        self.check_as_it_was(ahead)

    def test_blocks_that_are_kept(self):
        with self.machine.trial():
            self.machine.undo()
            self.machine.look("+ZIII")
            self.assertIsNone(self.machine.keep())
            self.machine.keep()
            self.machine.flip("XXXX")
        self.assertEqual(journal(self.machine).split("\n")[-3:], ["mark a +XXII", "look +ZIII", "flip XXXX"])
        with self.assertRaises(NothingToRedo):
            self.machine.redo()
        self.machine.undo()
        self.machine.redo()
        with self.machine.trial():
            self.machine.undo()
            self.machine.keep()
        self.machine.redo()
        self.assertEqual(self.machine.done, 3)

    def test_errors_leave_a_block(self):
        ahead = self.told()
        for keep in (False, True):
            for error in (KeyError("x"), Never("+X"), NoTrial(None), AssertionError()):
                with self.assertRaises(type(error)) as caught:
                    with self.machine.trial():
                        self.machine.look("+XIII")
                        if keep:
                            self.machine.keep()
                        raise error
                self.assertIs(caught.exception, error)
                self.check_as_it_was(ahead)
        with self.assertRaises(BadWord):
            with self.machine.trial():
                self.machine.flip("ZIII")
                self.machine.keep()
                self.machine.look("XXXX")
        self.check_as_it_was(ahead)
        with self.machine.trial():
            with self.assertRaises(BadWord):
                self.machine.look("XXXX")
            self.machine.flip("ZIII")
            self.machine.keep()
        self.assertEqual(self.machine.done, 3)

    def test_no_trial(self):
        for _ in range(2):
            with self.assertRaises(NoTrial) as caught:
                self.machine.keep()
            self.assertIsNone(caught.exception.value)
            self.machine.trial()
        with self.machine.trial():
            self.machine.keep()
        with self.assertRaises(NoTrial):
            self.machine.keep()
        with self.assertRaises(KeyError):
            with self.machine.trial():
                raise KeyError
        with self.assertRaises(NoTrial):
            self.machine.keep()
        self.machine.tried(lambda its: None, keep=True)
        with self.assertRaises(NoTrial):
            self.machine.keep()

    def test_a_block_begins_where_it_is_entered(self):
        block = self.machine.trial()
        self.machine.look("+ZIII")
        ahead = self.told()
        with block:
            self.machine.look("+IZII")
            self.machine.undo()
            self.machine.undo()
        self.assertEqual(self.told(), ahead)
        self.machine.undo()
        self.machine.redo()
        self.assertEqual(self.told(), ahead)
        # What can be done again is so as it was when the block was entered.
        block = self.machine.trial()
        self.machine.undo()
        with block:
            self.machine.flip("ZIII")
        self.machine.redo()
        self.assertEqual(self.told(), ahead)
        with self.assertRaises(NothingToRedo):
            self.machine.redo()

    def test_a_block_belongs_to_the_one_in_which_it_is_entered(self):
        block = self.machine.trial()
        with self.machine.trial():
            with block:
                self.machine.gate("h 1")
                self.machine.keep()
            self.machine.keep()
        self.assertEqual(journal(self.machine).split("\n")[-1], "gate h 1")
        with self.assertRaises(NoTrial):
            self.machine.keep()

    def test_blocks_within_blocks(self):
        """Each way to keep some of three blocks: what stands are the deeds of those that are kept, and all around them."""
        for kept in range(8):
            machine = Machine(FOUR)
            keeps = [bool(kept >> k & 1) for k in range(3)]
            with machine.trial():
                machine.gate("h 0")
                with machine.trial():
                    machine.gate("h 1")
                    with machine.trial():
                        machine.gate("h 2")
                        if keeps[2]:
                            machine.keep()
                    machine.gate("s 1")
                    if keeps[1]:
                        machine.keep()
                machine.gate("s 0")
                if keeps[0]:
                    machine.keep()
            inner = ["gate h 2"] if keeps[2] else []
            middle = ["gate h 1"] + inner + ["gate s 1"] if keeps[1] else []
            outer = ["gate h 0"] + middle + ["gate s 0"] if keeps[0] else []
            self.assertEqual(journal(machine).split("\n")[4:], outer)

    def test_errors_leave_inner_blocks(self):
        with self.machine.trial():
            self.machine.flip("ZIII")
            ahead = self.told()
            with self.assertRaises(KeyError):
                with self.machine.trial():
                    self.machine.flip("XIII")
                    self.machine.keep()
                    with self.machine.trial():
                        self.machine.keep()
                        self.machine.flip("YIII")
                        raise KeyError
            self.assertEqual(self.told(), ahead)
            self.machine.keep()
        self.assertEqual(self.told(), ahead)

    def test_blocks_of_two_machines(self):
        other = Machine(FOUR)
        with self.machine.trial():
            with other.trial():
                other.gate("h 0")
                self.machine.gate("h 3")
                self.machine.keep()
            self.assertEqual(other.done, 0)
            with self.assertRaises(NoTrial):
                other.keep()
        self.assertEqual(self.machine.done, 3)

    def test_tried(self):
        ahead = self.told()
        told = ["something"]
        called = []

        def look(machine):
            called.append(machine)
            machine.look("+ZIII")
            return told
        self.assertIs(self.machine.tried(look), told)
        self.assertEqual(len(called), 1)
        self.assertIs(called[0], self.machine)
        self.check_as_it_was(ahead)
        for keep in (False, None, 0, 1, "yes", [True], (), 1.0, "True"):
            self.assertIs(self.machine.tried(look, keep=keep), told)
            self.assertEqual(self.told(), ahead)
        self.check_as_it_was(ahead)
        self.assertIs(self.machine.tried(look, keep=True), told)
        self.assertEqual((self.machine.done, journal(self.machine).split("\n")[-1]), (3, "look +ZIII"))

    def test_tried_with_keep_called_by_look(self):
        def look(machine):
            machine.look("+ZIII")
            machine.keep()
            return machine.done
        self.assertEqual(self.machine.tried(look), 3)
        self.assertEqual(self.machine.done, 3)
        self.assertEqual(self.machine.tried(look, keep=False), 4)
        self.assertEqual(self.machine.done, 4)
        # A keep within a block of its own keeps that one alone.
        ahead = self.told()

        def inner(machine):
            with machine.trial():
                machine.flip("ZIII")
                machine.keep()
            return machine.done
        self.assertEqual(self.machine.tried(inner), 5)
        self.assertEqual(self.told(), ahead)
        self.assertEqual(self.machine.tried(inner, keep=True), 5)
        self.assertEqual(self.machine.done, 5)

    def test_tried_with_errors(self):
        ahead = self.told()
        for keep in (False, True):
            for error in (KeyError("y"), Held("a"), BadLot(())):
                def look(machine):
                    machine.flip("ZIII")
                    machine.keep()
                    raise error
                with self.assertRaises(type(error)) as caught:
                    self.machine.tried(look, keep=keep)
                self.assertIs(caught.exception, error)
                self.check_as_it_was(ahead)
        with self.assertRaises(NoTrial):
            self.machine.keep()

    def test_tried_within_tried(self):
        def outer(machine):
            machine.gate("s 0")
            machine.tried(lambda its: its.gate("s 1"), keep=True)
            machine.tried(lambda its: its.gate("s 2"))
            return machine.done
        self.assertEqual(self.machine.tried(outer), 4)
        self.assertEqual(self.machine.done, 2)
        self.assertEqual(self.machine.tried(outer, keep=True), 4)
        self.assertEqual(journal(self.machine).split("\n")[-2:], ["gate s 0", "gate s 1"])

    def test_random_blocks(self):
        """Deeds, undo, redo and blocks at random: behind each block that is not kept all is as it was."""
        for turn in range(40):
            chance = random.Random(turn)
            self.machine = Machine(FOUR)
            self.run_block(chance, 3)

    def run_block(self, chance, depth):
        for _ in range(6):
            kind = chance.randrange(8)
            if kind < 3:
                self.machine.gate(random_gates(chance, 4, 1)[0])
            elif kind == 3 and self.machine.done:
                self.machine.undo()
            elif kind == 4:
                try:
                    self.machine.redo()
                except NothingToRedo:
                    pass
            elif depth:
                twin, keep = self.machine.copy(), chance.random() < 0.5
                with self.machine.trial():
                    self.run_block(chance, depth - 1)
                    inside = self.machine.copy()
                    if keep:
                        self.machine.keep()
                self.check_twins(self.machine, inside if keep else twin)

    def check_twins(self, machine, other):
        """That both are alike in all things, in what can be undone and done again, too."""
        machine, other = machine.copy(), other.copy()
        self.assertEqual(self.told(machine), self.told(other))
        for move, error in (("redo", NothingToRedo), ("undo", NothingToUndo)):
            while True:
                try:
                    getattr(machine, move)()
                except error:
                    with self.assertRaises(error):
                        getattr(other, move)()
                    break
                getattr(other, move)()
                self.assertEqual(self.told(machine), self.told(other))


class Copies(Checking):

    def test_copies(self):
        for turn in range(30):
            chance = random.Random(turn)
            machine, model = Machine(FOUR), Model(4, FOUR.words)
            for _ in range(8):
                name, args = random_deed(chance, model)
                if refused(model, name, args) is None:
                    getattr(machine, name)(*args)
            for _ in range(min(machine.done, 2)):
                machine.undo()
            other = machine.copy()
            self.assertIsInstance(other, Machine)
            self.assertIsNot(other, machine)
            self.assertTrue(other == machine)
            self.assertIs(other.first, machine.first)
            text, its = journal(machine), other.copy()
            other.flip("X" * other.guard.wires)
            with self.assertRaises(NothingToRedo):
                other.redo()
            self.assertEqual((journal(machine), journal(its)), (text, text))
            self.assertFalse(other == machine)
            self.assertTrue(its == machine)
            if machine.done:
                its.undo()
                self.assertEqual(journal(machine), text)
                self.assertFalse(its == machine)
                its.redo()
            self.assertTrue(its == machine)

    def test_copies_can_redo(self):
        machine = Machine(FOUR)
        machine.mark("a", "+XXII")
        machine.gate("h 0")
        machine.undo()
        machine.undo()
        other = machine.copy()
        other.redo()
        other.redo()
        self.assertEqual((other.done, machine.done, len(other), len(machine)), (2, 0, 1, 0))
        machine.redo()
        machine.redo()
        self.assertTrue(machine == other)

    def test_copies_within_blocks(self):
        machine = Machine(FOUR)
        with machine.trial():
            machine.gate("h 0")
            other = machine.copy()
            with self.assertRaises(NoTrial):
                other.keep()
            machine.gate("h 1")
            with other.trial():
                other.gate("h 2")
                other.keep()
        self.assertEqual((machine.done, other.done), (0, 2))
        with self.assertRaises(NoTrial):
            machine.keep()

    def test_equal_machines(self):
        one, other = Machine(FOUR), Machine(Guard(FOUR.text))
        self.assertTrue(one == other)
        self.assertFalse(one != other)
        one.gate("h 0")
        self.assertFalse(one == other)
        self.assertTrue(one != other)
        other.gate("h 0")
        self.assertTrue(one == other)
        # What can be done again is none of the journal.
        one.gate("h 1")
        one.undo()
        self.assertTrue(one == other)
        # The same group behind other deeds, or with words in another sequence, is another machine.
        one.gate("h 1")
        one.gate("h 1")
        self.assertFalse(one == other)
        self.assertFalse(Machine(FOUR) == Machine(Guard("wires 4\nguard +ZZZZ\nguard +XXXX")))
        machine = Machine(Guard("wires 1"))
        for value in junk() + [FOUR, journal(machine), machine.guard, machine.first]:
            self.assertIs(machine == value, type(value) is Machine)
            self.assertIs(machine != value, type(value) is not Machine)
            self.assertIs(value == machine, type(value) is Machine)

    def test_each_class_defines_its_methods(self):
        for name in ("mark", "gate", "look", "flip", "lose", "bring", "off", "shows_off", "told_by", "undo", "redo",
                     "trial", "keep", "tried",
                     "copy", "__len__", "__contains__", "__eq__", "guard", "marks", "read", "spoilt", "done"):
            self.assertIn(name, vars(Machine))
        self.assertEqual(Machine.__mro__, (Machine, object))
        self.assertEqual([hasattr(Machine(FOUR), name) for name in ("first", "guard", "marks", "read", "spoilt",
                                                                    "done")], [True] * 6)
