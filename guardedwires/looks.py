"""Looks that read nothing: what they hear, what the guard and its frames are behind them."""

from guardedwires.errors import NotKept
from guardedwires.frames import need_frame
from guardedwires.groups import kind_of, numbers_crossing, word_in_group
from guardedwires.guards import guard_of
from guardedwires.needs import need_letters, need_word
from guardedwires.stepping import all_behind, need_looks, need_unread, pairs_behind, words_behind


def foretold(guard, letters):
    """What is known ahead of a look at these letters: ("sure", sign), ("reads",) or ("falls", number)."""
    need_letters(letters, guard.wires)
    crossing = numbers_crossing(guard.words, letters)
    if len(crossing) > 0:
        return ("falls", crossing[0])
    there = word_in_group(guard.words, letters)
    return ("reads",) if there is None else ("sure", there[0])


def looked(guard, word):
    """The Guard behind this look, which is of a seen word or of one of the group."""
    need_word(word, guard.wires)
    need_unread(guard.words, word, word)
    return guard_of(guard.wires, words_behind(guard.words, word))


def read(guard, word):
    """The Guard behind a look at this kept word."""
    need_word(word, guard.wires)
    if kind_of(guard.words, word) != "kept":
        raise NotKept(word)
    return guard_of(guard.wires, list(guard.words) + [word])


def went(guard, pairs, word):
    """Where the frame's words go on to by this look."""
    need_frame(guard, pairs)
    need_word(word, guard.wires)
    need_unread(guard.words, word, word)
    return pairs_behind(guard.words, pairs, word)


def along(guard, looks):
    """The Guard behind all these looks."""
    need_looks(looks, guard.wires)
    return guard_of(guard.wires, all_behind(guard.words, (), looks)[0])


def gone(guard, pairs, looks):
    """Where the frame's words go on to by all these looks."""
    need_frame(guard, pairs)
    need_looks(looks, guard.wires)
    return all_behind(guard.words, pairs, looks)[1]
