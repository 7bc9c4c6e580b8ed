"""Section 29: journals."""

import random

from guardedwires import journals
from guardedwires.errors import BadJournal
from guardedwires.guards import Guard, group
from guardedwires.journals import journal, read_journal
from guardedwires.machine import Machine
from tests.checking import Checking, junk, random_guard, some_guard
from tests.oracle_live import Model, deed_of, line_of, wrong_line
from tests.test_machine import FOUR, random_deed, refused

TEXT = "\n".join(["wires 4", "guard +XXXX", "guard +ZZZZ", "machine", "mark a +XXII", "mark b +ZIZI", "look +ZIII",
                  "lose 2", "gate h 1",
                  "bring 1 +X", "flip XXXXX", "lose 0 3 4", "gate cx 0 1"])


def done_on(turn, many=10, most=4):
    """(machine, lines): a machine, and the lines of the deeds that stand on it."""
    chance = random.Random(turn)
    guard = some_guard(turn, most)
    machine, model, lines = Machine(guard), Model(guard.wires, guard.words), []
    for _ in range(many):
        name, args = random_deed(chance, model)
        if refused(model, name, args) is None:
            getattr(machine, name)(*args)
            lines.append(line_of(name, *args))
    return machine, lines


class Journals(Checking):

    def check_bad(self, text, number):
        with self.assertRaises(BadJournal, msg=text) as caught:
            read_journal(text)
        self.assertIs(type(caught.exception), BadJournal)
        self.assertEqual((caught.exception.value, type(caught.exception.value)), (number, int), text)

    def check_text(self, text):
        """That the text is read, or refused, as it is told."""
        number, model = wrong_line(text)
        if number is not None:
            self.check_bad(text, number)
            return False
        machine = read_journal(text)
        self.assertIsInstance(machine, Machine)
        self.assertEqual(frozenset(group(machine.guard)), model.those)
        self.assertEqual(([name for name, _ in machine.marks], dict(machine.read), set(machine.spoilt)),
                         (sorted(model.marks), model.read, model.spoilt))
        self.assertEqual(journal(machine), text)
        return True

    def test_journals(self):
        for turn in range(80):
            machine, lines = done_on(turn)
            text = "\n".join([machine.first.text, "machine"] + lines)
            self.assertEqual(journal(machine), text)
            self.assertIsInstance(journal(machine), str)
            self.assertTrue(read_journal(text) == machine)
            self.assertTrue(self.check_text(text))
            for number in range(min(3, machine.done)):
                machine.undo()
                self.assertEqual(journal(machine),
                                 "\n".join([machine.first.text, "machine"] + lines[:len(lines) - 1 - number]))

    def test_what_is_read_back(self):
        """A machine that is read back is as the other one, and can be taken back to the beginning."""
        for turn in range(40):
            machine, lines = done_on(turn)
            other = read_journal(journal(machine))
            self.assertEqual((other.first, other.guard, other.marks, other.read, other.spoilt, other.done),
                             (machine.first, machine.guard, machine.marks, machine.read, machine.spoilt, len(lines)))
            for _ in lines:
                other.undo()
                machine.undo()
                self.assertEqual((other.guard, other.marks, other.read, other.spoilt, other.done),
                                 (machine.guard, machine.marks, machine.read, machine.spoilt, machine.done))
            self.assertTrue(other == Machine(machine.first))

    def test_lines(self):
        machine = Machine(FOUR)
        self.assertEqual(journal(machine), FOUR.text + "\nmachine")
        machine.mark("a", "-XXII")
        machine.gate("swap 3 0")
        machine.look("+XXXX")
        machine.flip("IIII")
        machine.lose((0, 2, 3))
        machine.bring(Guard("wires 1"))
        machine.bring(Guard("wires 1\nguard -Y"))
        self.assertEqual(journal(machine).split("\n")[3:], ["machine", "mark a -XXII", "gate swap 3 0", "look +XXXX",
                                                            "flip IIII", "lose 0 2 3", "bring 1", "bring 1 -Y"])
        other = Machine(Guard("wires 1"))
        other.bring(Guard("wires 3\nguard +XZI\nguard -ZXI"))
        self.assertEqual(journal(other), "wires 1\nmachine\nbring 3 +XZI -ZXI")
        with machine.trial():
            machine.gate("h 0")
            self.assertEqual(journal(machine).split("\n")[-1], "gate h 0")
        self.assertEqual(journal(machine).split("\n")[-1], "bring 1 -Y")

    def test_no_strings(self):
        for value in junk() + [b"wires 1\nmachine", ["wires 1", "machine"], Machine(FOUR)]:
            if not isinstance(value, str):
                self.check_bad(value, 0)

    def test_no_line_machine(self):
        """The number of lines and one, whatever else is wrong."""
        for text, number in (("", 2), ("wires 1", 2), ("wires 1\n", 3), ("\n\n", 4), ("wires 9\nfoo", 3),
                             ("machine ", 2), (" machine", 2), ("Machine\nwires 1", 3),
                             ("wires 1\nguard +X\nmachines\nmark a +Z", 5), ("wires 1\nmachine machine", 3),
                             (FOUR.text, 4), ("machinemachine", 2)):
            self.check_bad(text, number)

    def test_guard_lines(self):
        for lines, number in (([], 1), (["wires 7"], 1), ([""], 1), (["wires 1", ""], 2),
                              (["wires 1", "guard +X", "guard +Z"], 3), (["guard +X"], 1),
                              (["wires 1", "guard X"], 2), (["wires 2", "guard +XX", "guard +ZZ", "guard +YY"], 4),
                              (["wires 02"], 1), (["wires 1 "], 1),
                              (["wires 2", "mark a +XX"], 2), (["wires 2", "guard  +XX"], 2)):
            for more in ([], ["foo"], ["machine"], [""], ["mark a +X", ""]):
                self.check_bad("\n".join(lines + ["machine"] + more), number)

    def test_a_wrong_line_at_each_place(self):
        lines = TEXT.split("\n")
        self.assertTrue(self.check_text(TEXT))
        wrong = ["", " ", "foo", "machine", "wires 4", "guard +XXXX", "undo", "redo", "marks", "kind +XXXX", "mark",
                 "mark a", "mark z +XXII +ZZII", "mark  z +XXII",
                 "mark z  +XXII", " mark z +XXII", "mark z +XXII ", "MARK z +XXII", "mark Z +XXII",
                 "mark abcdefghi +XXII", "mark z XXII", "mark z +XXX", "mark z1 +XXII",
                 "gate", "gate ", "gate h", "gate h 9", "gate h  0", "gate h 0 1", "gate H 0", "gate cx 0",
                 "gate cx 0 0", "gate cx 0 1 ", "gate h 00", "gate h -0",
                 "look", "look XXXX", "look +X", "look + XXXX", "look +XXXX +XXXX", "flip", "flip +XXXX", "flip XX",
                 "flip XXXX XXXX", "flip I I I I",
                 "lose", "lose ", "lose 9", "lose -1", "lose 1 0", "lose 0 0", "lose 00", "lose 01", "lose +1",
                 "lose 0  1", "lose 0,1", "lose 0 1 ", "lose a", "lose 1.0", "lose -", "lose --1", "lose 0 -",
                 "bring -", "lose -0",
                 "bring", "bring ", "bring 0", "bring 7", "bring 6", "bring x", "bring 01 +X", "bring 1 X",
                 "bring 1 +X +Z", "bring 1 +X -X", "bring 1 +XX", "bring -1", "bring 1  +X",
                 "bring +X", "bring 1 +X ", "bring 2 +XX +ZZ +YY", "bring 1.0 +X", "lookup +XXXX", "look\t+XXXX"]
        for line in wrong:
            for place in range(4, len(lines) + 1):
                text = "\n".join(lines[:place] + [line] + lines[place:])
                self.assertFalse(self.check_text(text))
                self.check_bad(text, place + 1)
                self.check_bad("\n".join(lines[:place] + [line]), place + 1)
                self.check_bad("\n".join(lines[:place] + [line, "foo", ""]), place + 1)

    def test_refused_lines(self):
        """Lines of the right form that are refused where they stand, though they might stand elsewhere."""
        start = ["wires 2", "guard +ZZ", "machine"]
        for lines in (["mark a +XI"], ["mark a +ZZ"], ["mark a +II"], ["mark a +XX", "mark a +ZI"],
                      ["mark a +XX", "look +XX", "mark a +XX"], ["look -ZZ"],
                      ["gate x 0", "look +ZZ"], ["look +XX", "look -XX"], ["lose 2"], ["bring 5"],
                      ["bring 2", "bring 3"], ["mark a +XX", "bring 1", "mark b +XX"],
                      ["mark a +XX", "mark b +XX", "mark c +XX", "mark d +XX", "mark e +XX", "mark f +XX",
                       "mark g +XX"], ["look -II"],
                      ["mark a +ZI", "look +XX", "mark a +XX"]):
            self.check_bad("\n".join(start + lines), len(start + lines))
            self.check_bad("\n".join(start + lines + ["mark q +XX", ""]), len(start + lines))
            self.assertFalse(self.check_text("\n".join(start + lines)))
            self.assertTrue(self.check_text("\n".join(start + lines[:-1])))

    def test_line_feeds_at_the_end(self):
        lines = TEXT.split("\n")
        for place in range(4, len(lines) + 1):
            text = "\n".join(lines[:place])
            self.assertTrue(self.check_text(text))
            self.check_bad(text + "\n", place + 1)
            self.check_bad(text + "\n\n", place + 1)

    def test_changed_texts(self):
        read = 0
        for turn in range(300):
            chance = random.Random(turn)
            machine, _ = done_on(turn % 40, 6, 3)
            lines = journal(machine).split("\n")
            place = chance.randrange(len(lines))
            kind = chance.randrange(5)
            if kind == 0:
                lines[place:place + 1] = []
            elif kind == 1:
                lines.insert(place, chance.choice(lines))
            elif kind == 2:
                lines[place:place + 2] = lines[place:place + 2][::-1]
            else:
                at = chance.randrange(len(lines[place]) + 1)
                lines[place] = lines[place][:at] + chance.choice("+-XYZI 01hsa") + lines[place][at + (kind == 3):]
            read += self.check_text("\n".join(lines))
        self.assertGreater(read, 20)

    def test_forms(self):
        self.assertEqual(deed_of("lose 0 10 -3"), ("lose", ((0, 10, -3),)))
        self.assertIsNone(deed_of("lose 0 -0"))
        self.assertIsNone(deed_of("bring 1 +X +X"))

    def test_six_wires(self):
        for turn in range(15):
            machine = Machine(random_guard(random.Random(turn), 6, turn % 7))
            machine.lose((turn % 6,))
            machine.flip("XYZXYZ")
            machine.gate("cz 5 0")
            self.assertTrue(self.check_text(journal(machine)))

    def test_names(self):
        self.check_names(journal, "machine", (Machine(FOUR),))
        self.check_names(read_journal, "text", (TEXT,))
        for function in (journal, read_journal):
            self.assertEqual(function.__module__, "guardedwires.journals")
            self.assertIs(getattr(journals, function.__name__), function)
