"""Wishes: what shall be so of a guard."""

from guardedwires.errors import BadWish
from guardedwires.flows import peeled
from guardedwires.groups import kind_of
from guardedwires.holders import can_be_lost
from guardedwires.letters import rest_of
from guardedwires.mending import most_mended
from guardedwires.values import is_from_to, is_lot, is_tuple_of, is_word

LEAST_MENDED = 1
MOST_MENDED = 3
MOST_KEPT = 6


def is_wish(guard, value):
    """Whether it is a wish for the guard."""
    if not is_tuple_of(value, 2):
        return False
    name, told = value
    if name == "lost":
        return is_lot(told, guard.wires) and len(told) > 0
    if name in ("all", "nothing", "flow"):
        return is_lot(told, guard.wires)
    if name in ("kept", "told"):
        return is_word(told, guard.wires)
    if name == "mended":
        return is_from_to(told, LEAST_MENDED, MOST_MENDED)
    return name == "keeps" and is_from_to(told, 0, MOST_KEPT)


def has_come_true(guard, wish):
    """Whether this wish comes true of the guard."""
    name, told = wish
    if name in ("lost", "nothing"):
        return can_be_lost(guard, told)
    if name == "all":
        return can_be_lost(guard, rest_of(told, guard.wires))
    if name == "kept":
        return kind_of(guard.words, told) == "kept"
    if name == "told":
        return kind_of(guard.words, told) == "guard"
    if name == "mended":
        return min(told, guard.wires) <= most_mended(guard)[0]
    if name == "keeps":
        return told <= guard.kept
    return len(peeled(guard, told)[1]) == 0


def comes_true(guard, wish):
    """Whether this wish comes true of the guard."""
    if not is_wish(guard, wish):
        raise BadWish(wish)
    return has_come_true(guard, wish)
