"""Makers that do not pass one another: what is kept beside them, on which wires."""

from guardedwires.guards import guard_of
from guardedwires.letters import cross_just_in_pairs, letters_cross, lies_on, rest_of, wires_touched
from guardedwires.needs import need_lot, need_makers
from guardedwires.rows import all_sums, beside, letters_of, parting_rows, rows_of, rows_on, rows_passing
from guardedwires.spans import sizes
from guardedwires.values import is_from_to, is_letters, is_told, is_tuple_of


def lone_rows(wires, makers):
    """A base of the lone rows of the span."""
    return parting_rows(rows_of(makers), wires)[0]


def bare_rows(wires, makers):
    """A base of the rows that pass all makers."""
    return rows_passing(rows_of(makers), wires)


def dressed_rows(wires, makers):
    """A base of the rows of dressed letters: those that pass all lone ones."""
    return rows_passing(lone_rows(wires, makers), wires)


def is_bare(wires, makers, value):
    """Whether any value is bare letters."""
    return is_letters(value, wires) and not any([letters_cross(value, maker) for maker in makers])


def is_dressed(wires, makers, value):
    """Whether any value is dressed letters."""
    if not is_letters(value, wires):
        return False
    lone = [letters_of(row, wires) for row in lone_rows(wires, makers)]
    return not any([letters_cross(value, letters) for letters in lone])


def carried(wires, makers):
    """How much is kept: wires less the lone ones, and less the pairs."""
    lone, pairs = sizes(wires, makers)
    return wires - lone - pairs


def letters_of_pairs(pairs, wires):
    """The tuple of tuples (letters, mate) of these pairs of rows."""
    return tuple([(letters_of(one, wires), letters_of(mate, wires)) for one, mate in pairs])


def bare_frame(wires, makers):
    """A tuple of (letters, mate), bare ones that cross their mates and pass all others."""
    need_makers(wires, makers)
    return letters_of_pairs(parting_rows(bare_rows(wires, makers), wires)[1], wires)


def shows_bare_frame(wires, makers, value):
    """Whether this is such a result as is told for bare_frame."""
    many = carried(wires, makers)
    if not is_tuple_of(value, many) or not all([is_tuple_of(pair, 2) for pair in value]):
        return False
    parts = [letters for pair in value for letters in pair]
    if not all([is_bare(wires, makers, letters) for letters in parts]):
        return False
    return cross_just_in_pairs(parts, [])


def lone_guard(wires, makers):
    """A Guard whose words have + and letters that are a base of all lone ones."""
    need_makers(wires, makers)
    return guard_of(wires, ["+" + letters_of(row, wires) for row in lone_rows(wires, makers)])


def picked_on(wires, makers, rows, lot):
    """(number, some): as many letters of what the rows span, on the lot, as are independent beside the makers."""
    picked = beside(rows_of(makers), rows_on(rows, lot, wires))
    return len(picked), tuple([letters_of(row, wires) for row in picked])


def bare_on(wires, makers, lot):
    """(number, some) of the bare letters on this lot that are independent beside the span."""
    need_makers(wires, makers)
    need_lot(lot, wires)
    return picked_on(wires, makers, bare_rows(wires, makers), lot)


def dressed_on(wires, makers, lot):
    """(number, some) of the dressed letters on this lot that are independent beside the span."""
    need_makers(wires, makers)
    need_lot(lot, wires)
    return picked_on(wires, makers, dressed_rows(wires, makers), lot)


def is_picked(wires, makers, lot, some):
    """Whether these letters lie on the lot, and no product of one or more of them is of the span."""
    rows = rows_of(some)
    if len(beside(rows_of(makers), rows)) != len(rows):
        return False
    return all([lies_on(letters, lot) for letters in some])


def shows_bare_on(wires, makers, lot, value):
    """Whether this is such a result as is told for bare_on."""
    many = bare_on(wires, makers, lot)[0]
    if not is_tuple_of(value, 2) or not is_from_to(value[0], many, many) or not is_tuple_of(value[1], many):
        return False
    if not all([is_bare(wires, makers, letters) for letters in value[1]]):
        return False
    return is_picked(wires, makers, lot, value[1])


def shows_dressed_on(wires, makers, lot, value):
    """Whether this is such a result as is told for dressed_on."""
    many = dressed_on(wires, makers, lot)[0]
    if not is_tuple_of(value, 2) or not is_from_to(value[0], many, many) or not is_tuple_of(value[1], many):
        return False
    if not all([is_dressed(wires, makers, letters) for letters in value[1]]):
        return False
    return is_picked(wires, makers, lot, value[1])


def spared(wires, makers, lot):
    """Whether these wires may be lost: ("moved", frame), or ("dressed", letters)."""
    number, some = dressed_on(wires, makers, lot)
    if number > 0:
        return ("dressed", some[0])
    # Nothing dressed lies here, so all that is bare can be told by bare letters of the rest.
    rows = rows_on(bare_rows(wires, makers), rest_of(lot, wires), wires)
    return ("moved", letters_of_pairs(parting_rows(rows, wires)[1], wires))


def shows_spared(wires, makers, lot, value):
    """Whether this is such a result as is told for spared."""
    need_makers(wires, makers)
    need_lot(lot, wires)
    if is_told(value, "moved", 2) and shows_bare_frame(wires, makers, value[1]):
        rest = rest_of(lot, wires)
        return all([lies_on(letters, rest) for pair in value[1] for letters in pair])
    if is_told(value, "dressed", 2) and is_dressed(wires, makers, value[1]):
        return is_picked(wires, makers, lot, (value[1],))
    return False


def least_dressed(wires, makers):
    """(number, letters): dressed ones, not of the span, on as few wires as can be; None if nothing is kept."""
    if carried(wires, makers) == 0:
        return None
    span = {row: True for row in all_sums(beside([], rows_of(makers)))}
    rows = [row for row in all_sums(dressed_rows(wires, makers)) if row not in span]
    parts = [letters_of(row, wires) for row in rows]
    return min([(len(wires_touched(letters)), letters) for letters in parts])
