"""Section 25: wishes, and which of them come true."""

import random

from guardedwires import wishes as wishes_module
from guardedwires.errors import BadWish
from guardedwires.flows import flow
from guardedwires.guards import Guard, exchanged
from guardedwires.holders import can_tell
from guardedwires.kinds import kind
from guardedwires.losing import lost
from guardedwires.mending import two_faults
from guardedwires.wishes import comes_true
from tests import oracle_turns
from tests.checking import Checking, all_guards, junk, multiplied, near, opposite, random_guard, random_word, some_guard
from tests.oracle import all_lots, all_words
from tests.oracle_guards import kept_words
from tests.oracle_turns import is_wish
from tests.test_flows import flowing

FOUR = Guard("wires 4\nguard +XXXX\nguard +ZZZZ")
FIVE = Guard("wires 5\nguard +XZZXI\nguard +IXZZX\nguard +XIXZZ\nguard +ZXIXZ")
NAMES = ("lost", "all", "nothing", "flow", "kept", "told", "mended", "keeps")


def all_wishes(guard, words):
    found = [(name, lot) for name in ("lost", "all", "nothing",
                                      "flow") for lot in all_lots(guard.wires) if lot or name != "lost"]
    found += [(name, word) for name in ("kept", "told") for word in words]
    return found + [("mended", many) for many in (1, 2, 3)] + [("keeps", many) for many in range(7)]


def random_wish(chance, guard):
    words = [random_word(chance, guard.wires)] + sorted(kept_words(guard))[:1] + list(guard.words)
    return chance.choice([wish for wish in all_wishes(guard, words) if wish[0] == chance.choice(NAMES)] or [("keeps",
            0)])


class Wishes(Checking):

    def test_comes_true(self):
        found = set()
        for guard in all_guards(1) + all_guards(2)[::4] + [FOUR] + [flowing(turn) for turn in range(60)]:
            chance = random.Random(guard.text)
            words = sorted(all_words(guard.wires))
            for wish in all_wishes(guard, chance.sample(words,
                                                        min(12,
                                                            len(words))) + list(guard.words) + sorted(kept_words(guard))[:4]):
                self.assertTrue(is_wish(guard, wish))
                told = comes_true(guard, wish)
                self.assertIs(told, oracle_turns.comes_true(guard, wish), (guard.text, wish))
                found.add((wish[0], told))
        self.assertEqual(found, {(name, told) for name in NAMES for told in (True, False)})

    def test_five_and_six_wires(self):
        self.assertEqual([comes_true(FIVE, ("mended", many)) for many in (1, 2, 3)], [True, False, False])
        self.assertEqual([comes_true(FIVE, ("keeps", many)) for many in (0, 1, 2)], [True, True, False])
        self.assertEqual([comes_true(FIVE, ("all", lot)) for lot in ((0, 1, 2), (0, 1))], [True, False])
        self.assertEqual([comes_true(FIVE, ("nothing", lot)) for lot in ((0, 1, 2), (0, 1), ())], [False, True, True])
        for turn in range(30):
            chance = random.Random(turn)
            guard = random_guard(chance, 5 + turn % 2, turn % 6)
            for _ in range(8):
                wish = random_wish(chance, guard)
                self.assertIs(comes_true(guard, wish), oracle_turns.comes_true(guard, wish), (guard.text, wish))

    def test_by_other_functions(self):
        for turn in range(60):
            guard = flowing(turn)
            for lot in all_lots(guard.wires):
                self.assertEqual(comes_true(guard, ("nothing", lot)), lost(guard, lot)[0] == "may")
                self.assertEqual(comes_true(guard, ("flow", lot)), flow(guard, lot)[0] == "flow")
                if lot:
                    self.assertEqual(comes_true(guard, ("lost", lot)), lost(guard, lot)[0] == "may")
                if 0 < len(lot) < guard.wires:
                    holders = (lot, tuple(wire for wire in range(guard.wires) if wire not in lot))
                    self.assertEqual(comes_true(guard, ("all", lot)), can_tell(guard, holders, (0,)) == "all")
                    nothing = can_tell(guard, holders, (0,)) == "nothing" or guard.kept == 0
                    self.assertEqual(comes_true(guard, ("nothing", lot)), nothing)
            for many in (1, 2, 3):
                self.assertEqual(comes_true(guard, ("mended", many)), two_faults(guard, min(many, guard.wires)) is None)
            for word in random.Random(turn).sample(sorted(all_words(guard.wires)), 4):
                self.assertEqual(comes_true(guard, ("kept", word)), kind(guard, word)[0] == "kept")
                self.assertEqual(comes_true(guard, ("told", word)), kind(guard, word)[0] == "guard")

    def test_nothing_kept(self):
        """Each lot may be lost, and tells all, and nothing."""
        for turn in range(12):
            guard = random_guard(random.Random(turn), 1 + turn % 4, 1 + turn % 4)
            for lot in all_lots(guard.wires):
                for name in ("lost", "all", "nothing") if lot else ("all", "nothing"):
                    self.assertIs(comes_true(guard, (name, lot)), True)
            self.assertEqual([comes_true(guard, ("mended", many)) for many in (1, 2, 3)], [True] * 3)
            self.assertEqual([comes_true(guard, ("keeps", many)) for many in (0, 1)], [True, False])

    def test_no_words(self):
        free = Guard("wires 2")
        self.assertEqual([comes_true(free, ("all", lot)) for lot in ((), (0,), (0, 1))], [False, False, True])
        self.assertEqual([comes_true(free, ("nothing", lot)) for lot in ((), (0,), (0, 1))], [True, False, False])
        self.assertEqual([comes_true(free, wish) for wish in (("told", "+II"), ("told", "-II"), ("kept", "+II"),
                                                              ("kept", "-XI"))],
                         [True, False, False, True])
        self.assertEqual([comes_true(free, ("flow", ())), comes_true(free, ("flow", (0,))),
                          comes_true(free, ("keeps", 2))], [True, False, True])

    def test_bases_and_contraries_and_wires_exchanged(self):
        for turn in range(40):
            chance = random.Random(turn)
            guard = flowing(turn)
            wires = tuple(chance.sample(range(guard.wires), guard.wires))
            for _ in range(10):
                name, told = wish = random_wish(chance, guard)
                self.assertIs(comes_true(multiplied(chance, guard), wish), comes_true(guard, wish))
                if name != "told":
                    self.assertIs(comes_true(opposite(chance, guard), wish), comes_true(guard, wish))
                if isinstance(told, tuple):
                    told = tuple(sorted(wires.index(wire) for wire in told))
                elif isinstance(told, str):
                    told = told[0] + "".join(told[1 + wire] for wire in wires)
                self.assertIs(comes_true(exchanged(guard, wires), (name, told)), comes_true(guard, wish))

    def test_wrong_arguments(self):
        self.check_wrong(comes_true, (FOUR, ("lost", (0,))), [None, (BadWish, lambda value: is_wish(FOUR, value))])
        bad = [("lost", ()), ("mended", 0), ("mended", 4), ("mended", True), ("keeps", 7), ("keeps", -1),
               ("keeps", False), ("kept", "XXII"),
               ("kept", "+XX"), ("told", ""), ("all", (4,)), ("all", (1, 0)), ("flow", [0]), ("nothing", (True,)),
               ("lost", 0), ("lose", (0,)),
               ["lost", (0,)], ("lost",), ("lost", (0,), 1), (("lost", (0,)),), ("Lost", (0,)), ("keeps", "1"),
               ("keeps", 1.0), (1, "keeps")]
        for value in bad:
            self.check_refused(comes_true, (FOUR, ("lost", (0,))), {1: value}, BadWish)
        for name in NAMES:
            for part in junk():
                if not is_wish(FOUR, (name, part)):
                    self.check_refused(comes_true, (FOUR, ("keeps", 0)), {1: (name, part)}, BadWish)
        for wish in (("lost", (0, 2)), ("kept", "+XXII"), ("mended", 2), ("flow", ())):
            for value in near(wish):
                if not is_wish(FOUR, value):
                    self.check_refused(comes_true, (FOUR, wish), {1: value}, BadWish)
        self.assertIs(comes_true(some_guard(0, 1), ("keeps", 6)), False)

    def test_names(self):
        self.check_names(comes_true, "guard wish", (FOUR, ("keeps", 0)))
        self.assertEqual(comes_true.__module__, "guardedwires.wishes")
        self.assertIs(wishes_module.comes_true, comes_true)
