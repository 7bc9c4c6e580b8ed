"""How many letters words have: counted over a group, over what passes a guard, over lots of wires."""

from guardedwires.errors import BadRow
from guardedwires.groups import rows_of_words
from guardedwires.letters import wires_touched
from guardedwires.rows import all_sums, letters_of, numbers_in, rows_on, rows_passing
from guardedwires.values import MOST_WIRES, is_integer


def counted(rows, wires):
    """For each number from 0 to wires, how many sums of these independent rows have so many letters."""
    many = [0] * (wires + 1)
    for row in all_sums(rows):
        touched = len(wires_touched(letters_of(row, wires)))
        many[touched] = many[touched] + 1
    return tuple(many)


def of_group(guard):
    """For each number from 0 on, how many letters of words of the group have so many."""
    return counted(rows_of_words(guard.words), guard.wires)


def of_passing(guard):
    """For each number from 0 on, how many letters that pass the guard have so many."""
    return counted(rows_passing(rows_of_words(guard.words), guard.wires), guard.wires)


def balances(number, wires):
    """The balance of this number and of each one from 0 to wires."""
    row = [1]
    for wire in range(wires):
        # Of the three letters at a wire one passes a letter there and two cross it; all three pass I.
        step = -1 if wire < number else 3
        row = [one + step * other for one, other in zip(row + [0], [0] + row)]
    return row


def is_row(value):
    """Whether it is a tuple of two to seven integers from 0, the first one 1."""
    if not isinstance(value, tuple) or not 2 <= len(value) <= MOST_WIRES + 1:
        return False
    return all([is_integer(part) and part >= 0 for part in value]) and value[0] == 1


def other_row(row):
    """The row of what passes, from that of a group; or back."""
    if not is_row(row):
        raise BadRow(row)
    wires = len(row) - 1
    sums = [0] * (wires + 1)
    for number, many in enumerate(row):
        sums = [one + many * balance for one, balance in zip(sums, balances(number, wires))]
    total = sum(row)
    if not all([one >= 0 and one % total == 0 for one in sums]):
        raise BadRow(row)
    return tuple([one // total for one in sums])


def by_lots(guard):
    """For each lot (lot, words, passing): how many independent ones of the group, of what passes, lie on it."""
    rows = rows_of_words(guard.words)
    passing = rows_passing(rows, guard.wires)
    lots = [numbers_in(mask) for mask in range(1 << guard.wires)]
    told = []
    for _, lot in sorted([(len(lot), lot) for lot in lots]):
        told.append((lot, len(rows_on(rows, lot, guard.wires)), len(rows_on(passing, lot, guard.wires))))
    return tuple(told)
