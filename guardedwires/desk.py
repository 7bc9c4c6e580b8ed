"""A desk: a machine to which lines are said, and which answers."""

from guardedwires.deeds import deed_told, do_deed, lot_of, words_of_line
from guardedwires.errors import BadLine
from guardedwires.journals import read_journal
from guardedwires.kinds import kind

NOTHING = "."


def all_named(words):
    """These words, parted by one blank; a sign for none."""
    return " ".join(words) if len(words) > 0 else NOTHING


def bare_answer(machine, name):
    """What is answered to a line of this one word; None if that is no such line."""
    if name == "marks":
        return all_named([mark for mark, _ in machine.marks])
    if name == "spoilt":
        return all_named(machine.spoilt)
    if name == "read":
        return all_named([mark + sign for mark, sign in machine.read])
    if name == "wires":
        return str(machine.guard.wires)
    if name == "keeps":
        return str(machine.guard.kept)
    return None


def asked_answer(machine, name, told):
    """What is answered to a line of this word and those behind it; None if that is no such line."""
    if name == "kind" and len(told) == 1:
        return kind(machine.guard, told[0])[0]
    if name == "off" and lot_of(told[1:]) is not None:
        return "no" if machine.off(told[0], lot_of(told[1:])) is None else "yes"
    if name == "tells" and lot_of(told) is not None:
        return all_named(machine.told_by(lot_of(told)))
    return None


def did(machine, line):
    """Whether the line tells a deed, undo or redo; this is done then."""
    deed = deed_told(line)
    if deed is not None:
        do_deed(machine, deed[0], deed[1])
    elif line == "undo":
        machine.undo()
    elif line == "redo":
        machine.redo()
    else:
        return False
    return True


class Desk:
    """A desk that works on `machine`, that of a journal."""

    def __init__(self, text):
        self.machine = read_journal(text)

    def say(self, line):
        """The answer to this line."""
        if not isinstance(line, str) or "\n" in line or words_of_line(line) is None:
            raise BadLine(line)
        if did(self.machine, line):
            return "ok"
        words = words_of_line(line)
        answer = asked_answer(self.machine, words[0], words[1:])
        if len(words) == 1:
            answer = bare_answer(self.machine, words[0])
        if answer is None:
            raise BadLine(line)
        return answer
