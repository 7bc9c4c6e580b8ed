"""The errors: each keeps its only argument as `value`."""


class WireError(ValueError):
    """What all errors of this package derive from."""

    def __init__(self, value):
        self.value = value


class BadWord(WireError):
    """Its value: what is no word."""


class BadLetters(WireError):
    """Its value: what are no letters."""


class BadLot(WireError):
    """Its value: what is no lot of wires."""


class BadGates(WireError):
    """Its value: what are no gates."""


class BadFrame(WireError):
    """Its value: what is no frame of the guard."""


class NotKept(WireError):
    """Its value: a word that the guard does not keep."""


class OtherWires(WireError):
    """Its value: what is no guard of as many wires."""


class BadWords(WireError):
    """Its value: what is no tuple of such words."""


class Bent(WireError):
    """Its value: the quarters of a product that is no word."""


class BadNumber(WireError):
    """Its value: what is no such number."""


class BadTable(WireError):
    """Its value: what is no table."""


class BadMakers(WireError):
    """Its value: what are no makers."""


class BadBase(WireError):
    """Its value: what is no tuple of such independent words."""


class BadGuard(WireError):
    """Its value: the number of the first line that cannot stand there, or 0."""


class Crosses(WireError):
    """Its value: the numbers of the words that are crossed."""


class Made(WireError):
    """Its value: the numbers of the words that make this one."""


class NoWord(WireError):
    """Its value: what is the number of no word."""


class BadWires(WireError):
    """Its value: what is no tuple of all wires, each once."""


class BadOther(WireError):
    """Its value: what is no guard."""


class Wide(WireError):
    """Its value: the greatest number of wires that there may be."""


class MustNot(WireError):
    """Its value: a kept word that lies on a lot."""


class BadRow(WireError):
    """Its value: what is no such row."""


class BadFaults(WireError):
    """Its value: what are no faults."""


class BadWeights(WireError):
    """Its value: what are no weights."""


class Never(WireError):
    """Its value: a look that can never be told so."""


class Reads(WireError):
    """Its value: a look that would read what is kept."""


class BadLooks(WireError):
    """Its value: what are no looks."""


class OtherMany(WireError):
    """Its value: a guard with another number of words."""


class OtherLetters(WireError):
    """Its value: a guard whose group has other letters."""


class NoWords(WireError):
    """Its value: a guard without words."""


class BadHolders(WireError):
    """Its value: what are no holders."""


class BadNumbers(WireError):
    """Its value: what is no group of holders."""


class BadSide(WireError):
    """Its value: what is no side."""


class BadNet(WireError):
    """Its value: what is no net."""


class BadWire(WireError):
    """Its value: what is no wire."""


class Keeps(WireError):
    """Its value: how many are kept where nothing may be."""


class BadHeard(WireError):
    """Its value: what was not heard so."""


class NoWire(WireError):
    """Its value: what is the number of no wire of a lot."""


class BadFlow(WireError):
    """Its value: what is no flow."""


class Out(WireError):
    """Its value: the number of a turn that leads out of the guard."""


class BadSome(WireError):
    """Its value: what are no such names."""


class BadTurns(WireError):
    """Its value: what are no turns."""


class NotDone(WireError):
    """Its value: turns that do not keep the guard."""


class BadWish(WireError):
    """Its value: what is no wish."""


class BadOffers(WireError):
    """Its value: what are no offers."""


class BadWishes(WireError):
    """Its value: what are no wishes."""


class BadChoice(WireError):
    """Its value: what is no choice that counts."""


class BadName(WireError):
    """Its value: what is no name of a mark."""


class Held(WireError):
    """Its value: a name that is held already."""


class Full(WireError):
    """Its value: the greatest number of marks."""


class BadGate(WireError):
    """Its value: what is no gate."""


class NoMark(WireError):
    """Its value: what is the name of no kept mark."""


class NothingToUndo(WireError):
    """Its value: None, no deed stands."""


class NothingToRedo(WireError):
    """Its value: None, no deed was taken back."""


class NoTrial(WireError):
    """Its value: None, there is no block."""


class BadJournal(WireError):
    """Its value: the number of the first line that is wrong, or 0."""


class BadLine(WireError):
    """Its value: what is no line for a desk."""
