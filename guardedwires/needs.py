"""What is raised for values that are not as they have to be."""

from guardedwires.errors import BadGates, BadLetters, BadLot, BadMakers, BadNumber, BadWord
from guardedwires.values import MOST_WIRES, is_from_to, is_gates, is_letters, is_lot, is_makers, is_word


def need_wires(value):
    """BadNumber unless it is a number of wires."""
    if not is_from_to(value, 1, MOST_WIRES):
        raise BadNumber(value)


def need_word(value, wires):
    """BadWord unless it is a word of so many wires."""
    if not is_word(value, wires):
        raise BadWord(value)


def need_letters(value, wires):
    """BadLetters unless it is letters of so many wires."""
    if not is_letters(value, wires):
        raise BadLetters(value)


def need_lot(value, wires):
    """BadLot unless it is a lot of so many wires."""
    if not is_lot(value, wires):
        raise BadLot(value)


def need_gates(value, wires):
    """BadGates unless it is gates of so many wires."""
    if not is_gates(value, wires):
        raise BadGates(value)


def need_makers(wires, makers):
    """BadNumber unless wires is a number of wires; BadMakers unless makers are so."""
    need_wires(wires)
    if not is_makers(makers, wires):
        raise BadMakers(makers)
