"""What words are to a guard: of its group, contrary, kept or seen."""

from guardedwires.groups import is_kept, kind_of, need_kept, numbers_crossing, numbers_making, rows_of_words
from guardedwires.groups import word_made
from guardedwires.letters import by_letters, product_passing, turned_sign, words_cross
from guardedwires.needs import need_letters, need_word
from guardedwires.rows import letters_of, row_crossing, row_of
from guardedwires.values import is_exactly, is_numbers, is_told


def kept_crossing(guard, letters):
    """A word that passes the guard and crosses these letters, which pass it and are not of its group."""
    rows = rows_of_words(guard.words) + [row_of(letters)]
    return "+" + letters_of(row_crossing(rows, [0] * len(guard.words) + [1], guard.wires), guard.wires)


def kind(guard, word):
    """("guard", numbers), ("contrary", numbers), ("seen", numbers) or ("kept", mate)."""
    need_word(word, guard.wires)
    name = kind_of(guard.words, word)
    if name == "seen":
        return ("seen", numbers_crossing(guard.words, word[1:]))
    if name == "kept":
        return ("kept", kept_crossing(guard, word[1:]))
    return (name, numbers_making(guard.words, word[1:]))


def shows_kind(guard, word, value):
    """Whether this is such a result as is told for kind."""
    told = kind(guard, word)
    if told[0] != "kept":
        return is_exactly(value, told)
    return is_told(value, "kept", 2) and is_kept(guard.words, value[1], guard.wires) and words_cross(word, value[1])


def signs(guard, letters):
    """The numbers of the guard's words that cross these letters."""
    need_letters(letters, guard.wires)
    return numbers_crossing(guard.words, letters)


def need_two_kept(guard, word, other):
    """BadWord for word, then for other; NotKept for word, then for other."""
    need_word(word, guard.wires)
    need_word(other, guard.wires)
    need_kept(guard.words, word)
    need_kept(guard.words, other)


def times_guard(guard, word, numbers):
    """The product of this word, which passes the guard, with the guard's words with these numbers."""
    return product_passing(word_made(guard.words, numbers, guard.wires), word)


def alike_beside(guard, word, other):
    """("alike", numbers), ("contrary", numbers) or ("unlike", witness) of two kept words."""
    need_two_kept(guard, word, other)
    letters = by_letters(word[1:], other[1:])
    numbers = numbers_making(guard.words, letters)
    if numbers is None:
        return ("unlike", kept_crossing(guard, letters))
    return ("alike" if times_guard(guard, word, numbers) == other else "contrary", numbers)


def shows_alike_beside(guard, word, other, value):
    """Whether this is such a result as is told for alike_beside."""
    need_two_kept(guard, word, other)
    if is_told(value, "unlike", 2) and is_kept(guard.words, value[1], guard.wires):
        return words_cross(word, value[1]) != words_cross(other, value[1])
    if is_told(value, "alike", 2) and is_numbers(value[1], len(guard.words)):
        return times_guard(guard, word, value[1]) == other
    if is_told(value, "contrary", 2) and is_numbers(value[1], len(guard.words)):
        return times_guard(guard, word, value[1]) == turned_sign(other)
    return False
