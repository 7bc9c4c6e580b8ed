"""Journals: texts of what was done on machines."""

from guardedwires.deeds import deed_told, do_deed
from guardedwires.errors import BadGuard, BadJournal, WireError
from guardedwires.guards import Guard
from guardedwires.machine import Machine
from guardedwires.states import journal_of

BEGINS = "machine"


def journal(machine):
    """The text of the machine's first guard, and of each deed that stands."""
    return journal_of(machine.first, machine.now)


def machine_of(lines):
    """The Machine that begins with the guard of these lines; BadJournal with the number of the first wrong one."""
    try:
        return Machine(Guard("\n".join(lines)))
    except BadGuard as wrong:
        raise BadJournal(wrong.value)


def is_done(machine, line):
    """Whether the line tells a deed that the machine does not refuse; this is done then."""
    deed = deed_told(line)
    if deed is None:
        return False
    try:
        do_deed(machine, deed[0], deed[1])
    except WireError:
        return False
    return True


def read_journal(text):
    """A Machine on which this was done; BadJournal with the number of the first line that is wrong."""
    if not isinstance(text, str):
        raise BadJournal(0)
    lines = text.split("\n")
    if BEGINS not in lines:
        raise BadJournal(len(lines) + 1)
    at = lines.index(BEGINS)
    machine = machine_of(lines[:at])
    for number, line in enumerate(lines[at + 1:], start=at + 2):
        if not is_done(machine, line):
            raise BadJournal(number)
    return machine
