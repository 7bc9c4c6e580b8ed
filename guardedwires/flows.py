"""Looks by angles that nobody knows: in which sequence they run alike, however the answers fall."""

from guardedwires.errors import BadFlow, BadHeard, NoWire
from guardedwires.groups import kind_of, word_made
from guardedwires.letters import by_letters, letters_cross, lies_on
from guardedwires.losing import barring, misses, numbers_off
from guardedwires.needs import need_lot
from guardedwires.values import is_integer, is_letters, is_lot, is_told, is_tuple_of, is_word


def z_at(wire, wires):
    """The letters with Z at this wire alone."""
    return "I" * wire + "Z" + "I" * (wires - 1 - wire)


def last_word(guard, lot, wire):
    """A word of the group with Z at this wire, and I at all others of the lot; None if there is none."""
    numbers = numbers_off(guard, lot, z_at(wire, guard.wires))
    return None if numbers is None else word_made(guard.words, numbers, guard.wires)


def bar_last(guard, lot, wire):
    """Letters that bar this wire from being the last one of the lot; there are some if no word lets it be."""
    return barring(guard, lot, z_at(wire, guard.wires))


def need_wire_of(guard, lot, wire):
    """BadLot; NoWire unless wire is a number of the lot."""
    need_lot(lot, guard.wires)
    if not is_integer(wire) or wire not in lot:
        raise NoWire(wire)


def last(guard, lot, wire):
    """("word", word) by which this wire can be looked at behind all others of the lot, or ("barred", letters)."""
    need_wire_of(guard, lot, wire)
    word = last_word(guard, lot, wire)
    return ("barred", bar_last(guard, lot, wire)) if word is None else ("word", word)


def is_freeing(guard, value, wire, others):
    """Whether any value is a word of the group with Z at this wire, and I at those others."""
    if not is_word(value, guard.wires) or value[1 + wire] != "Z" or not misses(value[1:], others):
        return False
    return kind_of(guard.words, value) == "guard"


def is_barring(guard, lot, wire, value):
    """Whether any value is letters that bar this wire from being the last one of the lot."""
    if not is_letters(value, guard.wires) or not lies_on(value, lot) or value[wire] not in ("X", "Y"):
        return False
    return not any([letters_cross(word[1:], value) for word in guard.words])


def without_wire(lot, wire):
    """The lot without this wire."""
    return tuple([other for other in lot if other != wire])


def shows_last(guard, lot, wire, value):
    """Whether this is such a result as is told for last."""
    need_wire_of(guard, lot, wire)
    if is_told(value, "word", 2):
        return is_freeing(guard, value[1], wire, without_wire(lot, wire))
    return is_told(value, "barred", 2) and is_barring(guard, lot, wire, value[1])


def peeled(guard, lot):
    """(layers, left): as few layers (wires, words) as can be, and the wires left over, none of which can be last."""
    layers = ()
    left = lot
    while len(left) > 0:
        # What can be last of more wires can be so of fewer, so to wait helps nobody.
        able = tuple([wire for wire in left if last_word(guard, left, wire) is not None])
        if len(able) == 0:
            return layers, left
        layers = ((able, tuple([last_word(guard, left, wire) for wire in able])),) + layers
        left = tuple([wire for wire in left if wire not in able])
    return layers, left


def stuck(guard, left):
    """("stuck", some, rows) of wires none of which can be the last one."""
    return ("stuck", left, tuple([bar_last(guard, left, wire) for wire in left]))


def flow(guard, lot):
    """("flow", wires, words), or ("stuck", some, rows) if there is no flow for the lot."""
    need_lot(lot, guard.wires)
    layers, left = peeled(guard, lot)
    if len(left) > 0:
        return stuck(guard, left)
    wires = tuple([wire for able, _ in layers for wire in able])
    return ("flow", wires, tuple([word for _, words in layers for word in words]))


def is_each_once(value, lot):
    """Whether it is a tuple of the numbers of this lot, each once, in any sequence."""
    return isinstance(value, tuple) and all([is_integer(wire) for wire in value]) and sorted(value) == list(lot)


def is_flow(guard, wires, words):
    """Whether these words let these wires, each one of the guard's once, be looked at in this sequence."""
    if not is_tuple_of(words, len(wires)):
        return False
    return all([is_freeing(guard, words[at], wire, wires[:at]) for at, wire in enumerate(wires)])


def is_stuck(guard, lot, value):
    """Whether it is ("stuck", some, rows), some of the lot, none of which can be the last one of them."""
    if not is_told(value, "stuck", 3) or not is_lot(value[1], guard.wires) or len(value[1]) == 0:
        return False
    if not all([wire in lot for wire in value[1]]) or not is_tuple_of(value[2], len(value[1])):
        return False
    return all([is_barring(guard, value[1], wire, letters) for wire, letters in zip(value[1], value[2])])


def shows_flow(guard, lot, value):
    """Whether this is such a result as is told for flow."""
    need_lot(lot, guard.wires)
    if is_told(value, "flow", 3):
        return is_each_once(value[1], lot) and is_flow(guard, value[1], value[2])
    return is_stuck(guard, lot, value)


def fewest_layers(guard, lot):
    """("layers", lots, words), as few lots as can be, or ("stuck", some, rows)."""
    need_lot(lot, guard.wires)
    layers, left = peeled(guard, lot)
    if len(left) > 0:
        return stuck(guard, left)
    return ("layers", tuple([able for able, _ in layers]), tuple([words for _, words in layers]))


def is_layers(guard, lots, words):
    """Whether these words let these lots, all wires unlike, be looked at in this sequence, those of each together."""
    if not is_tuple_of(words, len(lots)):
        return False
    ahead = ()
    for some, told in zip(lots, words):
        if not is_tuple_of(told, len(some)):
            return False
        freed = [is_freeing(guard, word, wire, ahead + without_wire(some, wire)) for wire, word in zip(some, told)]
        if not all(freed):
            return False
        ahead = ahead + some
    return True


def shows_fewest_layers(guard, lot, value):
    """Whether this is such a result as is told for fewest_layers."""
    need_lot(lot, guard.wires)
    if not is_told(value, "layers", 3):
        return is_stuck(guard, lot, value)
    layers, left = peeled(guard, lot)
    if len(left) > 0 or not is_tuple_of(value[1], len(layers)):
        return False
    if not all([is_lot(some, guard.wires) and len(some) > 0 for some in value[1]]):
        return False
    if not is_each_once(tuple([wire for some in value[1] for wire in some]), lot):
        return False
    return is_layers(guard, value[1], value[2])


def need_flow(guard, wires, words):
    """BadFlow, with both, unless these are a flow of the guard for some lot."""
    lot = tuple([wire for wire in range(guard.wires) if isinstance(wires, tuple) and wire in wires])
    if not is_each_once(wires, lot) or not is_flow(guard, wires, words):
        raise BadFlow((wires, words))


def need_heard(many, value):
    """BadHeard unless it is a string of so many signs + and -."""
    if not isinstance(value, str) or len(value) != many or value.strip("+-") != "":
        raise BadHeard(value)


def owed(guard, wires, words, heard):
    """(turns, letters): which angles are taken contrary, and what stands on the other wires in the end."""
    need_flow(guard, wires, words)
    need_heard(len(wires), heard)
    turns = ""
    stands = "I" * guard.wires
    for wire, word, sign in zip(wires, words, heard):
        turns = turns + ("-" if stands[wire] in "XY" else "+")
        if (sign == "-") != (stands[wire] in "ZY"):
            stands = by_letters(stands, word[1:])
        # Its own letter was met by the angle and the answer.
        stands = stands[:wire] + "I" + stands[wire + 1:]
    return turns, stands
