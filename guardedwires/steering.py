"""Looks that come back to the guard and turn what is kept."""

from guardedwires.errors import NoWords
from guardedwires.frames import need_frame, same_frame, words_in
from guardedwires.groups import is_like_but_sign, need_kept, rows_of_words
from guardedwires.kinds import alike_beside
from guardedwires.letters import by_letters, letters_cross, words_cross
from guardedwires.needs import need_word
from guardedwires.rows import letters_of, row_crossing
from guardedwires.stepping import all_behind, leads_over
from guardedwires.values import is_exactly, is_looks, is_tuple_of


def letters_crossing(words, wanted, wires):
    """Letters that cross those of these words where 1 is wanted, and pass those where 0 is."""
    return letters_of(row_crossing(rows_of_words(words), wanted, wires), wires)


def three_looks(guard, pairs, letters):
    """Three looks that come back to the guard: what crosses these kept letters is multiplied by them."""
    first = guard.words[0]
    bound = list(guard.words) + words_in(pairs)
    aside = letters_crossing(bound, [int(word == first) for word in bound], guard.wires)
    # They are alike, beside the guard, to their product with its first word, and one of both passes aside.
    if letters_cross(aside, letters):
        letters = by_letters(letters, first[1:])
    return ("+" + by_letters(aside, letters), "+" + by_letters(aside, first[1:]), first)


def behind_looks(guard, pairs, looks):
    """The frame behind these looks."""
    return all_behind(guard.words, pairs, looks)[1]


def need_turnable(guard, pairs, word):
    """BadFrame; BadWord; NotKept; NoWords if the guard has no word."""
    need_frame(guard, pairs)
    need_word(word, guard.wires)
    need_kept(guard.words, word)
    if len(guard.words) == 0:
        raise NoWords(guard)


def turned_by(guard, pairs, word):
    """(looks, later): three looks that multiply what crosses this word by it, and the frame behind them."""
    need_turnable(guard, pairs, word)
    looks = three_looks(guard, pairs, word[1:])
    return looks, behind_looks(guard, pairs, looks)


def is_turned(guard, word, one, later):
    """Whether later is what has to come of one by the looks that turn by this word."""
    if not words_cross(one, word):
        return alike_beside(guard, one, later)[0] == "alike"
    return is_like_but_sign(guard.words, later, "+" + by_letters(one[1:], word[1:]))


def comes_back(guard, looks):
    """Whether each look is of a seen word at its turn, and the group behind them is that of the guard."""
    return leads_over(guard.words, guard.words, looks, guard.wires)


def shows_turned_by(guard, pairs, word, value):
    """Whether this is such a result as is told for turned_by."""
    need_turnable(guard, pairs, word)
    if not is_tuple_of(value, 2) or not is_looks(value[0], guard.wires) or len(value[0]) != 3:
        return False
    if not comes_back(guard, value[0]):
        return False
    later = behind_looks(guard, pairs, value[0])
    if not is_exactly(value[1], later):
        return False
    return all([is_turned(guard, word, one, its) for one, its in zip(words_in(pairs), words_in(later))])


def letters_between(guard, ahead, one, goal):
    """Letters by which this word is turned, in sequence, to goal, signs aside; they pass all words ahead."""
    if is_like_but_sign(guard.words, one, goal):
        return []
    if words_cross(one, goal):
        return [by_letters(one[1:], goal[1:])]
    bound = list(guard.words) + ahead
    wanted = [int(words_cross(word, one)) for word in bound] + [1, 1]
    between = letters_crossing(bound + [one, goal], wanted, guard.wires)
    return [by_letters(one[1:], between), by_letters(between, goal[1:])]


def turning_letters(guard, pairs, other, number):
    """Letters that turn the word with this number of the one frame to that of the other one, not those ahead."""
    wanted = words_in(other)
    return letters_between(guard, wanted[:number], words_in(pairs)[number], wanted[number])


def sign_looks(guard, pairs, other):
    """Looks that put the signs right of a frame that is alike to the other one but for them."""
    came = words_in(pairs)
    wrong = [int(alike_beside(guard, word, its)[0] == "contrary") for word, its in zip(came, words_in(other))]
    if 1 not in wrong:
        return ()
    letters = letters_crossing(list(guard.words) + came, [0] * len(guard.words) + wrong, guard.wires)
    there = three_looks(guard, pairs, letters)
    # What crosses the letters is multiplied by them with an odd number of quarters, so twice this turns its sign.
    return there + there


def need_steerable(guard, pairs, other):
    """BadFrame for pairs, then for other; NoWords if something has to be done, and the guard has no word."""
    need_frame(guard, pairs)
    need_frame(guard, other)
    if len(guard.words) == 0 and same_frame(guard, pairs, other) != ("same",):
        raise NoWords(guard)


def steer(guard, pairs, other):
    """Looks that come back to the guard, and lead each word of pairs to that of other in its place."""
    need_steerable(guard, pairs, other)
    looks = ()
    came = pairs
    for number in range(2 * guard.kept):
        for letters in turning_letters(guard, came, other, number):
            more = three_looks(guard, came, letters)
            came = behind_looks(guard, came, more)
            looks = looks + more
    return looks + sign_looks(guard, came, other)


def shows_steer(guard, pairs, other, value):
    """Whether this is such a result as is told for steer."""
    need_steerable(guard, pairs, other)
    if not is_looks(value, guard.wires) or not comes_back(guard, value):
        return False
    return same_frame(guard, behind_looks(guard, pairs, value), other) == ("same",)
