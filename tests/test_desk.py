"""Section 29: a desk."""

import inspect
import random

from guardedwires import errors
from guardedwires.desk import Desk
from guardedwires.errors import BadJournal, BadLine, NothingToRedo, NothingToUndo, WireError
from guardedwires.guards import group
from guardedwires.journals import journal, read_journal
from guardedwires.machine import Machine
from tests.checking import Checking, junk, random_word, some_guard
from tests.oracle_live import Model, Refused, asked, deed_of, line_of
from tests.test_journals import TEXT
from tests.test_machine import NAMES, random_deed

START = "wires 4\nguard +XXXX\nguard +ZZZZ\nmachine"


def random_line(chance, model):
    """A line, of any form, wrong ones among them."""
    kind = chance.randrange(14)
    lot = " ".join(str(wire) for wire in sorted(chance.sample(range(model.wires),
                                                              chance.randrange(1, model.wires + 1))))
    if kind < 6:
        name, args = random_deed(chance, model)
        return line_of(name, *args) if args != ((),) else "lose"
    if kind == 6:
        return "kind " + random_word(chance, model.wires + (chance.random() < 0.2))
    if kind == 7:
        return "off " + chance.choice(NAMES) + " " + lot + chance.choice(["", "", " 9"])
    if kind == 8:
        return "tells " + lot + chance.choice(["", "", " 0"])
    return chance.choice(["undo", "redo", "undo", "marks", "spoilt", "read", "wires", "keeps", "", "foo", "marks ",
                          "off a", "kind"])


class Desks(Checking):

    def check_bad(self, desk, line):
        self.check_error(desk, line, BadLine, line)

    def check_error(self, desk, line, error, value):
        ahead = journal(desk.machine)
        with self.assertRaises(error, msg=line) as caught:
            desk.say(line)
        self.assertIs(type(caught.exception), error)
        if error is BadLine:
            self.assertIs(caught.exception.value, value)
        self.assertEqual((caught.exception.value, type(caught.exception.value)), (value, type(value)))
        self.assertEqual(journal(desk.machine), ahead)

    def test_lines(self):
        """Lines said at random: each answer is what the model tells."""
        answers = set()
        for turn in range(100):
            chance = random.Random(turn)
            guard = some_guard(turn)
            desk, past, ahead = Desk(guard.text + "\nmachine"), [Model(guard.wires, guard.words)], []
            for _ in range(40):
                line = random_line(chance, past[-1])
                came, deed = past[-1].copy(), deed_of(line)
                try:
                    if line in ("undo", "redo"):
                        came.need(len(past) > 1 if line == "undo" else ahead,
                                  "NothingToUndo" if line == "undo" else "NothingToRedo", None)
                        (ahead.append(past.pop()) if line == "undo" else past.append(ahead.pop()))
                        answer = "ok"
                    elif deed is not None:
                        came.do(deed[0], *deed[1])
                        past, ahead, answer = past + [came], [], "ok"
                    else:
                        answer = asked(came, line)
                except Refused as why:
                    self.check_error(desk, line, getattr(errors, why.told[0]), why.told[1])
                    answers.add(why.told[0])
                else:
                    told = desk.say(line)
                    self.assertEqual((told, type(told)), (answer, str), line)
                    answers.add((line.split(" ")[0], told if told in ("yes", "no", ".") else "other"))
            self.assertEqual(frozenset(group(desk.machine.guard)), past[-1].those)
        wanted = {"BadLine", "BadLot", "NoMark", "NothingToUndo", "NothingToRedo", "BadWord", "Held", "NotKept",
                  "Never", "Wide"}
        wanted |= {("off", "yes"), ("off", "no"), ("tells", "."), ("tells", "other"), ("read", "other"), ("read", "."),
                   ("spoilt", "other"),
                   ("spoilt", "."), ("marks", "other"), ("marks", "."), ("kind", "other"), ("undo", "other"),
                   ("redo", "other")}
        self.assertLessEqual(wanted, answers)

    def test_the_machine(self):
        desk = Desk(TEXT)
        machine = desk.machine
        self.assertIsInstance(machine, Machine)
        self.assertTrue(machine == read_journal(TEXT))
        desk.say("flip IIIII")
        self.assertIs(desk.machine, machine)
        self.assertEqual(machine.done, read_journal(TEXT).done + 1)
        machine.undo()
        self.assertEqual(desk.say("redo"), "ok")
        self.assertEqual(desk.machine.done, read_journal(TEXT).done + 1)
        self.assertEqual(desk.say("undo"), "ok")
        with machine.trial():
            desk.say("lose 0 1 2 3 4")
        self.assertTrue(desk.machine == read_journal(TEXT))
        self.assertIsNot(Desk(TEXT).machine, Desk(TEXT).machine)

    def test_deeds(self):
        desk = Desk(START)
        for line in ("mark a +XXII", "mark b +ZIZI", "look +ZIII", "lose 2", "gate h 1", "gate swap 3 0", "bring 1 +X",
                     "bring 1", "flip XXXXXX", "lose 0 3 4"):
            self.assertEqual(desk.say(line), "ok")
            self.assertEqual(journal(desk.machine).split("\n")[-1], line)
        self.assertEqual(desk.machine.done, 10)
        for _ in range(10):
            self.assertEqual(desk.say("undo"), "ok")
        self.check_error(desk, "undo", NothingToUndo, None)
        for _ in range(10):
            self.assertEqual(desk.say("redo"), "ok")
        self.check_error(desk, "redo", NothingToRedo, None)

    def test_answers(self):
        desk = Desk(START)
        self.assertEqual([desk.say(line) for line in ("marks", "spoilt", "read", "wires", "keeps", "tells 0 1 2 3")],
                         [".", ".", ".", "4", "2", "."])
        self.assertEqual([desk.say("kind " + word) for word in ("+XXXX", "-XXXX", "+XXII", "-XIII")],
                         ["guard", "contrary", "kept", "seen"])
        for line in ("mark b +XXII", "mark a +XXII", "mark c -IIXX", "mark d +ZZII", "mark e +XIXI", "mark f +ZIZI"):
            desk.say(line)
        self.assertEqual([desk.say(line) for line in ("marks", "tells 0 1", "tells 2 3", "tells 0 2", "tells 0 1 2",
                                                      "tells 0")],
                         ["a b c d e f", "a b c d", "a b c d", "e f", "a b c d e f", "."])
        self.assertEqual([desk.say(line) for line in ("off a 0", "off a 0 1", "off a 0 2", "off e 0 1", "off e 0 2")],
                         ["yes", "yes", "no", "no", "yes"])
        desk.say("look -XXII")
        self.assertEqual([desk.say(line) for line in ("marks", "read", "spoilt", "keeps", "wires")],
                         ["d e", "a- b- c+", "f", "1", "4"])
        desk.say("bring 2 +XX")
        self.assertEqual([desk.say(line) for line in ("keeps", "wires", "off d 4 5", "tells 4 5")],
                         ["2", "6", "yes", "."])

    def test_bad_lines(self):
        desk = Desk(START)
        desk.say("mark a +XXII")
        for value in junk() + ["", " ", "  ", "foo", "machine", "wires 4", "keeps 2", "read a", "marks ", " marks",
                               "spoilt .", "undo 1", "undo ", "redo  ", "Undo", "UNDO", "un do",
                               "wires\n", "\nwires", "marks\nmarks", "mark b +ZIZI\n", "kind", "kind ", "kind  +XXXX",
                               "kind +XXXX +ZZZZ", "off", "off a", "off a ", "off  a 0",
                               "off a  0", "off a x", "off a 00", "off a 0 ", "off a -", "off a -0", "off a +0",
                               "off a 0 01",
                               "off 0", "tells", "tells ", "tells a", "tells 0  1", "tells 01",
                               "tells 0,1", "tells 1.0", "mark", "mark b", "mark b +ZIZI +", "mark  b +ZIZI", "gate",
                               "gate ", "gate  h 0", "gate h  0", "gate h 0 ", "look", "look ",
                               "look +XXXX +XXXX", "flip", "flip XX XX", "lose", "lose ", "lose x", "lose 0 x",
                               "lose 01", "lose -", "lose --1", "lose 0 -", "bring -", "lose -0", "lose 0  1",
                               "lose +1", "bring", "bring ", "bring x", "bring 01",
                               "bring 0", "bring 7", "bring -1", "bring 1 X", "bring 1 +XX", "bring 1 +X +Z",
                               "bring 1 +X +X", "bring 1  +X", "bring 1 +X ", "bring 2 +ZI +IZ -ZZ",
                               b"wires", ["wires"], ("wires",), "wires 1", "say wires", "."]:
            if isinstance(value, str) and value in ("wires", "marks"):
                continue
            self.check_bad(desk, value)
        self.assertEqual((desk.machine.done, desk.say("marks")), (1, "a"))

    def test_what_the_machine_raises(self):
        desk = Desk(START)
        desk.say("mark a +XXII")
        for line, name, value in (("mark A +XXII", "BadName", "A"), ("mark a1 foo", "BadName", "a1"),
                                  ("mark a foo", "Held", "a"), ("mark b foo", "BadWord", "foo"),
                                  ("mark b +XXXX", "NotKept", "+XXXX"),
                                  ("gate foo", "BadGate", "foo"), ("gate h 4", "BadGate", "h 4"),
                                  ("gate h 0 1", "BadGate", "h 0 1"), ("gate h 00", "BadGate", "h 00"),
                                  ("gate a b c d e f", "BadGate", "a b c d e f"),
                                  ("look foo", "BadWord", "foo"), ("look -XXXX", "Never", "-XXXX"),
                                  ("look XXXX", "BadWord", "XXXX"), ("flip +XXXX", "BadLetters", "+XXXX"),
                                  ("flip 0", "BadLetters", "0"),
                                  ("lose 4", "BadLot", (4,)), ("lose 1 0", "BadLot", (1, 0)),
                                  ("lose 0 0", "BadLot", (0, 0)), ("lose -1", "BadLot", (-1,)),
                                  ("lose 123456789", "BadLot", (123456789,)),
                                  ("bring 3", "Wide", 6), ("bring 6 +XXXXXX", "Wide", 6),
                                  ("kind foo", "BadWord", "foo"), ("kind XXXX", "BadWord", "XXXX"),
                                  ("off b 9", "NoMark", "b"), ("off A 0", "NoMark", "A"),
                                  ("off a 9", "BadLot", (9,)), ("off a 1 0", "BadLot", (1, 0)),
                                  ("off a -3", "BadLot", (-3,)), ("tells 4", "BadLot", (4,)),
                                  ("tells 1 1", "BadLot", (1, 1)), ("tells -1 0", "BadLot", (-1, 0)),
                                  ("redo", "NothingToRedo", None)):
            self.check_error(desk, line, getattr(errors, name), value)
        desk.say("undo")
        self.check_error(desk, "undo", NothingToUndo, None)
        # A line that is refused leaves what can be done again.
        self.check_error(desk, "look foo", errors.BadWord, "foo")
        self.assertEqual([desk.say("marks"), desk.say("redo"), desk.say("marks")], [".", "ok", "a"])

    def test_bad_journals(self):
        for text, number in ((0, 0), (None, 0), (("wires 1", "machine"), 0), ("", 2), ("wires 1", 2), ("machine", 1),
                             ("wires 0\nmachine", 1), ("wires 1\nmachine\n", 3),
                             ("wires 1\nmachine\nundo", 3), ("wires 1\nmachine\nmark a +X\nmark a +X", 4)):
            with self.assertRaises(BadJournal) as caught:
                Desk(text)
            self.assertEqual((caught.exception.value, type(caught.exception.value)), (number, int))
        for value in junk():
            with self.assertRaises(BadJournal):
                Desk(value)

    def test_names(self):
        self.assertEqual(Desk.__module__, "guardedwires.desk")
        self.assertIn("say", vars(Desk))
        self.assertEqual(list(inspect.signature(Desk).parameters), ["text"])
        self.assertEqual(list(inspect.signature(Desk.say).parameters), ["self", "line"])
        desk = Desk(text=START)
        self.assertEqual(desk.say(line="wires"), "4")
        self.assertTrue(issubclass(BadLine, WireError))
