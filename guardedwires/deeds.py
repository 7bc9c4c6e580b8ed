"""The lines that tell deeds, as journals and desks have them."""

from guardedwires.errors import BadGuard
from guardedwires.guards import Guard


def words_of_line(line):
    """The words of a line, parted by one blank; None if one of them has no sign."""
    words = line.split(" ")
    return None if "" in words else words


def is_number_word(word):
    """Whether this word is an integer as Python writes it."""
    figures = word[1:] if word[0] == "-" else word
    if figures == "" or figures.strip("0123456789") != "":
        return False
    return word == "0" or figures[0] != "0"


def lot_of(words):
    """The tuple of the integers that these words, one at least, are; None if they are not."""
    if len(words) == 0 or not all([is_number_word(word) for word in words]):
        return None
    return tuple([int(word) for word in words])


def guard_brought(words):
    """The Guard of so many wires with these words, as a line brings it; None if they make none."""
    if len(words) == 0:
        return None
    try:
        return Guard("\n".join(["wires " + words[0]] + ["guard " + word for word in words[1:]]))
    except BadGuard:
        return None


def deed_told(line):
    """(name, arguments) of the deed that this line tells; None if it has no such form."""
    words = words_of_line(line)
    if words is None:
        return None
    name = words[0]
    told = words[1:]
    if name == "mark" and len(told) == 2:
        return name, (told[0], told[1])
    if name in ("look", "flip") and len(told) == 1:
        return name, (told[0],)
    if name == "gate" and len(told) > 0:
        return name, (" ".join(told),)
    if name == "lose" and lot_of(told) is not None:
        return name, (lot_of(told),)
    if name == "bring" and guard_brought(told) is not None:
        return name, (guard_brought(told),)
    return None


def do_deed(machine, name, told):
    """Do the deed of this name, with these arguments, on the machine."""
    if name == "mark":
        machine.mark(told[0], told[1])
    elif name == "gate":
        machine.gate(told[0])
    elif name == "look":
        machine.look(told[0])
    elif name == "flip":
        machine.flip(told[0])
    elif name == "lose":
        machine.lose(told[0])
    else:
        machine.bring(told[0])
