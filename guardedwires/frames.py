"""Frames: pairs of kept words by which all that a guard keeps is told."""

from guardedwires.errors import BadFrame, BadWords
from guardedwires.groups import is_kept, is_like_but_sign, need_kept, rows_of_words
from guardedwires.kinds import alike_beside
from guardedwires.letters import by_letters, cross_just_in_pairs, letters_cross, words_cross
from guardedwires.needs import need_word
from guardedwires.rows import letters_of, parting_rows, rows_passing
from guardedwires.values import is_tuple_of

MOST_TURNS = 24


def words_in(pairs):
    """The words of these pairs, in sequence."""
    return [word for pair in pairs for word in pair]


def frame_of_rows(pairs, wires):
    """The pairs of words with + that have these rows."""
    return tuple([("+" + letters_of(one, wires), "+" + letters_of(mate, wires)) for one, mate in pairs])


def frame(guard):
    """A frame of the guard."""
    rows = rows_passing(rows_of_words(guard.words), guard.wires)
    return frame_of_rows(parting_rows(rows, guard.wires)[1], guard.wires)


def shows_frame(guard, value):
    """Whether this is a frame of the guard."""
    if not is_tuple_of(value, guard.kept) or not all([is_tuple_of(pair, 2) for pair in value]):
        return False
    words = words_in(value)
    if not all([is_kept(guard.words, word, guard.wires) for word in words]):
        return False
    return cross_just_in_pairs([word[1:] for word in words], [])


def need_frame(guard, value):
    """BadFrame unless it is a frame of the guard."""
    if not shows_frame(guard, value):
        raise BadFrame(value)


def told_in(guard, pairs, word):
    """(firsts, seconds): the numbers of the pairs of whose words this kept one is made."""
    need_frame(guard, pairs)
    need_word(word, guard.wires)
    need_kept(guard.words, word)
    firsts = [number for number, pair in enumerate(pairs) if words_cross(word, pair[1])]
    seconds = [number for number, pair in enumerate(pairs) if words_cross(word, pair[0])]
    return tuple(firsts), tuple(seconds)


def same_frame(guard, pairs, other):
    """("same",), or which word, the first one, is not alike beside the guard to that of other."""
    need_frame(guard, pairs)
    need_frame(guard, other)
    for number in range(guard.kept):
        for place in range(2):
            found = alike_beside(guard, pairs[number][place], other[number][place])[0]
            if found == "contrary":
                return ("signs", number, place)
            if found == "unlike":
                return ("other", number, place)
    return ("same",)


def turned_letters(letters, words):
    """What comes of these letters: for each of words, in sequence, the product with it, if they cross it."""
    came = letters
    for word in words:
        if letters_cross(came, word[1:]):
            came = by_letters(came, word[1:])
    return came


def turned_frame(guard, pairs, words):
    """A frame of what comes of the words of pairs by these words."""
    need_frame(guard, pairs)
    if not isinstance(words, tuple) or len(words) > MOST_TURNS:
        raise BadWords(words)
    if not all([is_kept(guard.words, word, guard.wires) for word in words]):
        raise BadWords(words)
    came = [["+" + turned_letters(word[1:], words) for word in pair] for pair in pairs]
    return tuple([(pair[0], pair[1]) for pair in came])


def shows_turned_frame(guard, pairs, words, value):
    """Whether this is such a result as is told for turned_frame."""
    told = turned_frame(guard, pairs, words)
    if not shows_frame(guard, value):
        return False
    both = [(word, its) for pair, other in zip(told, value) for word, its in zip(pair, other)]
    return all([is_like_but_sign(guard.words, word, its) for word, its in both])
