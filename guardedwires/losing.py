"""Which wires may be lost, and how what is kept is moved off them."""

from guardedwires.errors import MustNot
from guardedwires.frames import frame_of_rows, need_frame, shows_frame
from guardedwires.groups import base_words, group_words_on, is_group_base, is_kept, kept_rows_on, kind_of
from guardedwires.groups import numbers_making, rows_kept, rows_of_words, word_made
from guardedwires.letters import by_letters, letters_cross, lies_on, rest_of, wires_touched, words_cross
from guardedwires.needs import need_letters, need_lot
from guardedwires.rows import beside, letters_of, marks_on, mask_making, numbers_in, parting_rows, row_crossing, row_of
from guardedwires.rows import rows_of, rows_on, rows_passing
from guardedwires.values import is_exactly, is_from_to, is_letters, is_numbers, is_told, is_tuple_of, is_word


def lying(guard, lot):
    """(words, others): a base of the group's words on the lot, and letters of kept ones there."""
    need_lot(lot, guard.wires)
    words = group_words_on(guard.words, lot, guard.wires)
    rows = kept_rows_on(guard.words, lot, guard.wires)
    return tuple(words), tuple([letters_of(row, guard.wires) for row in rows])


def is_kept_letters_on(guard, lot, value):
    """Whether any value is the letters of a kept word that lies on the lot."""
    if not is_letters(value, guard.wires) or not lies_on(value, lot):
        return False
    return kind_of(guard.words, "+" + value) == "kept"


def shows_lying(guard, lot, value):
    """Whether this is such a result as is told for lying."""
    words, others = lying(guard, lot)
    if not is_tuple_of(value, 2) or not is_tuple_of(value[1], len(others)):
        return False
    if not is_group_base(guard.words, value[0], guard.wires, len(words)):
        return False
    if not all([lies_on(word[1:], lot) for word in value[0]]):
        return False
    if not all([is_kept_letters_on(guard, lot, letters) for letters in value[1]]):
        return False
    rows = rows_of(value[1])
    return len(beside(rows_of_words(guard.words), rows)) == len(rows)


def numbers_off(guard, lot, letters):
    """Numbers of the guard's words whose product with these letters misses the lot; None if there are none."""
    marks = marks_on(lot, guard.wires)
    rows = [row & marks for row in rows_of_words(guard.words)]
    mask = mask_making(rows, row_of(letters) & marks)
    return None if mask is None else numbers_in(mask)


def moved_letters(guard, numbers, letters):
    """The letters of the product of these letters with the guard's words with these numbers."""
    return by_letters(word_made(guard.words, numbers, guard.wires)[1:], letters)


def barring(guard, lot, letters):
    """Letters on the lot that pass the guard and cross these; there are some if these cannot be moved off it."""
    rows = rows_on(rows_passing(rows_of_words(guard.words), guard.wires), lot, guard.wires)
    return [other for other in [letters_of(row, guard.wires) for row in rows] if letters_cross(other, letters)][0]


def cleaned(guard, lot, letters):
    """("moved", numbers, other) with what of these letters misses the lot, or ("barred", other)."""
    need_lot(lot, guard.wires)
    need_letters(letters, guard.wires)
    numbers = numbers_off(guard, lot, letters)
    if numbers is None:
        return ("barred", barring(guard, lot, letters))
    return ("moved", numbers, moved_letters(guard, numbers, letters))


def misses(letters, lot):
    """Whether these letters are I on all wires of the lot."""
    return all([letters[wire] == "I" for wire in lot])


def shows_cleaned(guard, lot, letters, value):
    """Whether this is such a result as is told for cleaned."""
    need_lot(lot, guard.wires)
    need_letters(letters, guard.wires)
    if is_told(value, "barred", 2) and is_letters(value[1], guard.wires):
        if any([letters_cross(word[1:], value[1]) for word in guard.words]):
            return False
        return lies_on(value[1], lot) and letters_cross(value[1], letters)
    if is_told(value, "moved", 3) and is_numbers(value[1], len(guard.words)):
        came = moved_letters(guard, value[1], letters)
        return misses(came, lot) and is_exactly(value[2], came)
    return False


def kept_on(guard, lot):
    """A kept word that lies on the lot; None if there is none."""
    rows = kept_rows_on(guard.words, lot, guard.wires)
    return "+" + letters_of(rows[0], guard.wires) if len(rows) > 0 else None


def lost(guard, lot):
    """("may", frame) that misses the lot, or ("must not", word)."""
    need_lot(lot, guard.wires)
    word = kept_on(guard, lot)
    if word is not None:
        return ("must not", word)
    rows = kept_rows_on(guard.words, rest_of(lot, guard.wires), guard.wires)
    return ("may", frame_of_rows(parting_rows(rows, guard.wires)[1], guard.wires))


def shows_lost(guard, lot, value):
    """Whether this is such a result as is told for lost."""
    need_lot(lot, guard.wires)
    if is_told(value, "must not", 2):
        return is_kept(guard.words, value[1], guard.wires) and lies_on(value[1][1:], lot)
    if is_told(value, "may", 2) and shows_frame(guard, value[1]):
        return all([misses(word[1:], lot) for pair in value[1] for word in pair])
    return False


def need_movable(guard, lot, pairs):
    """BadLot; BadFrame; MustNot with a kept word that lies on the lot."""
    need_lot(lot, guard.wires)
    need_frame(guard, pairs)
    word = kept_on(guard, lot)
    if word is not None:
        raise MustNot(word)


def moved(guard, lot, pairs):
    """For each pair (numbers, more): with which words' product its first, its second word miss the lot."""
    need_movable(guard, lot, pairs)
    return tuple([tuple([numbers_off(guard, lot, word[1:]) for word in pair]) for pair in pairs])


def is_numbers_off(guard, lot, word, value):
    """Whether any value is numbers of words whose product with this one misses the lot."""
    return is_numbers(value, len(guard.words)) and misses(moved_letters(guard, value, word[1:]), lot)


def shows_moved(guard, lot, pairs, value):
    """Whether this is such a result as is told for moved."""
    need_movable(guard, lot, pairs)
    if not is_tuple_of(value, len(pairs)) or not all([is_tuple_of(row, 2) for row in value]):
        return False
    words = [word for pair in pairs for word in pair]
    parts = [part for row in value for part in row]
    return all([is_numbers_off(guard, lot, word, part) for word, part in zip(words, parts)])


def least_lots(guard):
    """All lots that must not be lost, but all lesser lots within them may be."""
    lots = [numbers_in(mask) for mask in range(1 << guard.wires)]
    found = []
    for _, lot in sorted([(len(lot), lot) for lot in lots]):
        lesser = [least for least in found if all([wire in lot for wire in least])]
        if len(lesser) == 0 and kept_on(guard, lot) is not None:
            found.append(lot)
    return tuple(found)


def least_word(guard):
    """(number, word): a kept word on as few wires as can be; (0, None) where nothing is kept."""
    if guard.kept == 0:
        return (0, None)
    parts = [letters_of(row, guard.wires) for row in rows_kept(guard.words, guard.wires)]
    number, letters = min([(len(wires_touched(part)), part) for part in parts])
    return (number, "+" + letters)


def shows_least_word(guard, value):
    """Whether this is such a result as is told for least_word."""
    number = least_word(guard)[0]
    if not is_tuple_of(value, 2) or not is_from_to(value[0], number, number):
        return False
    if guard.kept == 0:
        return value[1] is None
    return is_kept(guard.words, value[1], guard.wires) and len(wires_touched(value[1][1:])) == number


def need_two_lots(guard, one, other):
    """BadLot for one, then for other."""
    need_lot(one, guard.wires)
    need_lot(other, guard.wires)


def words_missing(guard, one, other):
    """A base of what the words of the group make that miss one of both lots at least."""
    mine = group_words_on(guard.words, rest_of(one, guard.wires), guard.wires)
    its = group_words_on(guard.words, rest_of(other, guard.wires), guard.wires)
    return base_words(mine + its)


def tying(guard, words):
    """A word that passes these words of the group, but not all of the group; there is one if they do not make it."""
    left = [word for word in guard.words if numbers_making(words, word[1:]) is None]
    rows = rows_of_words(words + left[:1])
    return "+" + letters_of(row_crossing(rows, [0] * len(words) + [1], guard.wires), guard.wires)


def apart(guard, one, other):
    """("apart", words), a base of the group each word of which misses one of both lots, or ("tied", word)."""
    need_two_lots(guard, one, other)
    words = words_missing(guard, one, other)
    if len(words) == len(guard.words):
        return ("apart", tuple(words))
    return ("tied", tying(guard, words))


def shows_apart(guard, one, other, value):
    """Whether this is such a result as is told for apart."""
    need_two_lots(guard, one, other)
    if is_told(value, "tied", 2) and is_word(value[1], guard.wires):
        crossed = [words_cross(word, value[1]) for word in words_missing(guard, one, other)]
        return kind_of(guard.words, value[1]) == "seen" and not any(crossed)
    if is_told(value, "apart", 2) and is_group_base(guard.words, value[1], guard.wires, len(guard.words)):
        return all([misses(word[1:], one) or misses(word[1:], other) for word in value[1]])
    return False
