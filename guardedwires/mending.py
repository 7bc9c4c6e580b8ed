"""Which faults can be mended, and by which answers to which signs."""

from guardedwires.errors import BadFaults, BadNumber, BadTable, BadWeights
from guardedwires.groups import kind_of, numbers_crossing, numbers_making
from guardedwires.letters import by_letters, wires_touched
from guardedwires.losing import least_word
from guardedwires.needs import need_letters
from guardedwires.values import is_ascending, is_exactly, is_from_to, is_letters, is_told, is_tuple_of

MOST_FAULTS = 40
MOST_WEIGHT = 999


def need_faults(guard, value):
    """BadFaults unless it is an ascending tuple of one to forty letters."""
    if not isinstance(value, tuple) or not 1 <= len(value) <= MOST_FAULTS:
        raise BadFaults(value)
    if not all([is_letters(letters, guard.wires) for letters in value]) or not is_ascending(value):
        raise BadFaults(value)


def is_akin(guard, one, other):
    """Whether the product of these letters is, but for signs, of the group."""
    return numbers_making(guard.words, by_letters(one, other)) is not None


def is_table_row(guard, value):
    """Whether it is (signs, letters), the signs those of the letters."""
    if not is_tuple_of(value, 2) or not is_letters(value[1], guard.wires):
        return False
    return is_exactly(value[0], numbers_crossing(guard.words, value[1]))


def is_table(guard, value):
    """Whether it is a table of the guard."""
    if not isinstance(value, tuple) or not all([is_table_row(guard, row) for row in value]):
        return False
    return is_ascending([row[0] for row in value])


def answer_to(guard, table, letters):
    """The letters in the table's row with the signs of these; None if there is no such row."""
    signs = numbers_crossing(guard.words, letters)
    for row in table:
        if row[0] == signs:
            return row[1]
    return None


def mends(guard, table, letters):
    """Whether the table mends this fault."""
    answer = answer_to(guard, table, letters)
    return answer is not None and is_akin(guard, answer, letters)


def by_signs(guard, faults):
    """Ascending by signs: (signs, those of faults that have them)."""
    found = {}
    for letters in faults:
        signs = numbers_crossing(guard.words, letters)
        found[signs] = found.get(signs, []) + [letters]
    return [(signs, found[signs]) for signs in sorted(list(found))]


def has_their_signs(guard, faults, table):
    """Whether the table has just one row for each signs that one of these faults has, and no others."""
    return [row[0] for row in table] == [signs for signs, _ in by_signs(guard, faults)]


def mended(guard, faults):
    """("table", table) that mends all of these faults, or ("spoils", one, other)."""
    need_faults(guard, faults)
    table = []
    for signs, some in by_signs(guard, faults):
        for other in some[1:]:
            if not is_akin(guard, some[0], other):
                return ("spoils", some[0], other)
        table.append((signs, some[0]))
    return ("table", tuple(table))


def is_spoiling(guard, one, other):
    """Whether these letters have the same signs and are not akin."""
    return kind_of(guard.words, "+" + by_letters(one, other)) == "kept"


def shows_mended(guard, faults, value):
    """Whether this is such a result as is told for mended."""
    need_faults(guard, faults)
    if is_told(value, "spoils", 3):
        if not all([is_letters(part, guard.wires) and part in faults for part in value[1:]]):
            return False
        return value[1] < value[2] and is_spoiling(guard, value[1], value[2])
    if not is_told(value, "table", 2) or not is_table(guard, value[1]):
        return False
    return has_their_signs(guard, faults, value[1]) and all([mends(guard, value[1], letters) for letters in faults])


def need_weights(faults, value):
    """BadWeights unless it is a tuple of as many integers from 0 to 999 as there are faults."""
    if not is_tuple_of(value, len(faults)) or not all([is_from_to(weight, 0, MOST_WEIGHT) for weight in value]):
        raise BadWeights(value)


def sum_mended(guard, faults, weights, table):
    """The sum of the weights of those of these faults that the table mends."""
    return sum([weight for letters, weight in zip(faults, weights) if mends(guard, table, letters)])


def best_table(guard, faults, weights):
    """(sum, table): a table that mends faults of the greatest sum of weights."""
    need_faults(guard, faults)
    need_weights(faults, weights)
    table = []
    for signs, some in by_signs(guard, faults):
        # Rows with other signs mend none of these.
        ways = [(sum_mended(guard, faults, weights, ((signs, letters),)), letters) for letters in some]
        table.append((signs, max(ways)[1]))
    return sum_mended(guard, faults, weights, table), tuple(table)


def shows_best_table(guard, faults, weights, value):
    """Whether this is such a result as is told for best_table."""
    most = best_table(guard, faults, weights)[0]
    if not is_tuple_of(value, 2) or not is_from_to(value[0], most, most) or not is_table(guard, value[1]):
        return False
    return has_their_signs(guard, faults, value[1]) and sum_mended(guard, faults, weights, value[1]) == most


def answered(guard, table, letters):
    """What becomes of a fault by this table: ("none",), ("mended",) or ("turned", product)."""
    if not is_table(guard, table):
        raise BadTable(table)
    need_letters(letters, guard.wires)
    answer = answer_to(guard, table, letters)
    if answer is None:
        return ("none",)
    if is_akin(guard, answer, letters):
        return ("mended",)
    return ("turned", by_letters(letters, answer))


def most_mended(guard):
    """(number, letters): how many letters all faults that can be mended may have, and those of a least kept word."""
    number, word = least_word(guard)
    if word is None:
        return (guard.wires, None)
    # Two faults of half as many letters each make the least kept word.
    return ((number - 1) // 2, word[1:])


def shows_most_mended(guard, value):
    """Whether this is such a result as is told for most_mended."""
    number, letters = most_mended(guard)
    if not is_tuple_of(value, 2) or not is_from_to(value[0], number, number):
        return False
    if letters is None:
        return value[1] is None
    if not is_letters(value[1], guard.wires) or kind_of(guard.words, "+" + value[1]) != "kept":
        return False
    return len(wires_touched(value[1])) == len(wires_touched(letters))


def two_faults(guard, most):
    """None, or two letters of at most so many each that have the same signs and are not akin."""
    if not is_from_to(most, 0, guard.wires):
        raise BadNumber(most)
    number, letters = most_mended(guard)
    if most <= number:
        return None
    first = wires_touched(letters)[:most]
    one = "".join([letter if wire in first else "I" for wire, letter in enumerate(letters)])
    return tuple(sorted([one, by_letters(one, letters)]))


def shows_two_faults(guard, most, value):
    """Whether this is such a result as is told for two_faults."""
    if two_faults(guard, most) is None:
        return value is None
    if not is_tuple_of(value, 2) or not all([is_letters(letters, guard.wires) for letters in value]):
        return False
    if not all([len(wires_touched(letters)) <= most for letters in value]) or not is_ascending(value):
        return False
    return is_spoiling(guard, value[0], value[1])
