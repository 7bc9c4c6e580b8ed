"""What DOC.md says of guards, by going through all words: slow, plain, and apart from the package.

Of a Guard only `wires` and `words` are read here.
"""

from functools import lru_cache
from itertools import combinations

from tests.oracle import (all_lots, all_words, by_letters, contrary, cross, is_in, is_independent,
                          is_letters, is_numbers, is_tuple, is_word, lone, misses, on, passing, same, sizes, some_of,
                          span, tells, weight, word_of, words_cross)


@lru_cache(None)
def group_of(n, words):
    return frozenset(word_of([words[k] for k in numbers], n) for numbers in some_of(words))


def group(guard):
    return group_of(guard.wires, guard.words)


def parts_of(words):
    return tuple(word[1:] for word in words)


def group_letters(guard):
    return span(guard.wires, parts_of(guard.words))


@lru_cache(None)
def passing_of(n, parts):
    return passing(n, parts)


def passing_guard(guard):
    """All letters that pass all words of the guard."""
    return passing_of(guard.wires, parts_of(guard.words))


def kept_letters(guard):
    return passing_guard(guard) - group_letters(guard)


def is_kept(guard, value):
    return is_word(value, guard.wires) and value[1:] in kept_letters(guard)


def kept_words(guard):
    return [sign + letters for letters in kept_letters(guard) for sign in "+-"]


def kind_name(guard, word):
    if word in group(guard):
        return "guard"
    if contrary(word) in group(guard):
        return "contrary"
    return "kept" if is_kept(guard, word) else "seen"


def signs(guard, letters):
    return tuple(number for number, word in enumerate(guard.words) if cross(word[1:], letters))


def is_beside(guard, parts):
    """Whether no product of one or more of these letters is of the letters of the group."""
    base = group_letters(guard)
    return all(by_letters([parts[k] for k in numbers], guard.wires) not in base
               for numbers in some_of(parts) if numbers)


def dimension(things):
    """How many independent ones make so many."""
    assert len(things) & (len(things) - 1) == 0
    return len(things).bit_length() - 1


# Section 8

def right_same_group(guard, other, value):
    if same(value, ("same",)):
        return group(guard) == group(other)
    if not is_tuple(value, 2) or not is_word(value[1], guard.wires):
        return False
    word = value[1]
    if same(value[0], "signs"):
        alike = group_letters(guard) == group_letters(other)
        return alike and word in group(other) and contrary(word) in group(guard)
    if not same(value[0], "other"):
        return False
    mine = word in group(guard) and word[1:] not in group_letters(other)
    return mine or (word in group(other) and word[1:] not in group_letters(guard))


def marks(word):
    letters = word[1:]
    return [letter in "XY" for letter in letters] + [letter in "ZY" for letter in letters]


def stands_in_steps(words):
    """Whether the first mark of each stands farther behind than in the word ahead, and no other word has it."""
    firsts = [marks(word).index(True) for word in words]
    if any(one >= other for one, other in zip(firsts, firsts[1:])):
        return False
    return all([marks(word)[first] for word in words].count(True) == 1 for first in firsts)


# Section 7

def dressed(n, makers):
    return frozenset(by_letters([bare, made], n) for bare in passing(n, makers) for made in span(n, makers))


def carried(n, makers):
    alone, pairs = sizes(n, makers)
    return n - alone - pairs


def right_bare_frame(n, makers, value):
    if not is_tuple(value, carried(n, makers)) or not all(is_tuple(pair, 2) for pair in value):
        return False
    parts = [letters for pair in value for letters in pair]
    if not all(is_in(letters, passing(n, makers)) for letters in parts):
        return False
    return all(cross(parts[a], parts[b]) == (a // 2 == b // 2) for a, b in combinations(range(len(parts)), 2))


def most_on(n, makers, those, lot):
    """The greatest number of those on the lot, independent beside the span."""
    here = frozenset(letters for letters in those if on(letters, lot))
    return dimension(here) - dimension(here & span(n, makers))


def right_some_on(n, makers, those, lot, value):
    number = most_on(n, makers, those, lot)
    if not is_tuple(value, 2) or not same(value[0], number) or not is_tuple(value[1], number):
        return False
    if not all(is_in(letters, those) and on(letters, lot) for letters in value[1]):
        return False
    return all(by_letters([value[1][k] for k in numbers], n) not in span(n, makers)
               for numbers in some_of(value[1]) if numbers)


def right_bare_on(n, makers, lot, value):
    return right_some_on(n, makers, passing(n, makers), lot, value)


def right_dressed_on(n, makers, lot, value):
    return right_some_on(n, makers, dressed(n, makers), lot, value)


def right_spared(n, makers, lot, value):
    if tells(value, "dressed", 2):
        return is_in(value[1], dressed(n, makers) - span(n, makers)) and on(value[1], lot)
    if not tells(value, "moved", 2) or not right_bare_frame(n, makers, value[1]):
        return False
    return all(misses(letters, lot) for pair in value[1] for letters in pair)


def right_lone_guard(n, makers, value):
    """Of a Guard."""
    alone = lone(n, makers)
    return value.wires == n and group_letters(value) == alone and all(word[0] == "+" for word in value.words)


def right_least_dressed(n, makers, value):
    if carried(n, makers) == 0:
        return value is None
    those = dressed(n, makers) - span(n, makers)
    least = min(weight(letters) for letters in those)
    return is_tuple(value, 2) and same(value[0], least) and is_in(value[1], those) and weight(value[1]) == least


# Section 9

def right_kind(guard, word, value):
    name = kind_name(guard, word)
    if not tells(value, name, 2):
        return False
    if name == "kept":
        return is_kept(guard, value[1]) and words_cross(word, value[1])
    if name == "seen":
        return same(value[1], signs(guard, word[1:]))
    if not is_numbers(value[1], len(guard.words)):
        return False
    made = word_of([guard.words[k] for k in value[1]], guard.wires)
    return made == (word if name == "guard" else contrary(word))


def right_alike_beside(guard, word, other, value):
    if tells(value, "unlike", 2):
        return is_kept(guard, value[1]) and words_cross(word, value[1]) != words_cross(other, value[1])
    if not is_tuple(value, 2) or not is_numbers(value[1], len(guard.words)):
        return False
    made = word_of([guard.words[k] for k in value[1]] + [word], guard.wires)
    return same(value[0], "alike") and made == other or same(value[0], "contrary") and made == contrary(other)


# Section 10

def right_frame(guard, value):
    if not is_tuple(value, guard.wires - len(guard.words)) or not all(is_tuple(pair, 2) for pair in value):
        return False
    words = [word for pair in value for word in pair]
    if not all(is_kept(guard, word) for word in words):
        return False
    return all(words_cross(words[a], words[b]) == (a // 2 == b // 2) for a, b in combinations(range(len(words)), 2))


def likeness(guard, word, other):
    """Of two kept words: "alike", "contrary" or "unlike"."""
    for made in group(guard):
        came = word_of([made, word], guard.wires)
        if came == other:
            return "alike"
        if came == contrary(other):
            return "contrary"
    return "unlike"


def same_frame(guard, pairs, other):
    for number, (pair, its) in enumerate(zip(pairs, other)):
        for place in (0, 1):
            found = likeness(guard, pair[place], its[place])
            if found != "alike":
                return ("signs" if found == "contrary" else "other", number, place)
    return ("same",)


def told_in(guard, pairs, word):
    firsts = tuple(k for k, pair in enumerate(pairs) if words_cross(pair[1], word))
    seconds = tuple(k for k, pair in enumerate(pairs) if words_cross(pair[0], word))
    return firsts, seconds


def right_turned_frame(guard, pairs, words, value):
    if not right_frame(guard, value):
        return False
    for pair, its in zip(pairs, value):
        for word, come in zip(pair, its):
            letters = word[1:]
            for turn in words:
                if cross(letters, turn[1:]):
                    letters = by_letters([letters, turn[1:]], guard.wires)
            if by_letters([letters, come[1:]], guard.wires) not in group_letters(guard):
                return False
    return True


# Section 11

def right_lying(guard, lot, value):
    if not is_tuple(value, 2) or not is_tuple(value[0]) or not is_tuple(value[1]):
        return False
    here = frozenset(word for word in group(guard) if on(word[1:], lot))
    if not all(is_in(word, here) for word in value[0]) or len(value[0]) != dimension(here):
        return False
    if not is_independent(parts_of(value[0]), guard.wires):
        return False
    free = frozenset(letters for letters in passing_guard(guard) if on(letters, lot))
    if not all(is_letters(part, guard.wires) and part in free & kept_letters(guard) for part in value[1]):
        return False
    many = dimension(free) - dimension(free & group_letters(guard))
    return len(value[1]) == many and is_beside(guard, value[1])


def right_cleaned(guard, lot, letters, value):
    if tells(value, "barred", 2):
        return is_in(value[1], passing_guard(guard)) and on(value[1], lot) and cross(value[1], letters)
    if not tells(value, "moved", 3) or not is_numbers(value[1], len(guard.words)):
        return False
    came = by_letters([guard.words[k][1:] for k in value[1]] + [letters], guard.wires)
    return misses(came, lot) and same(value[2], came)


def may_be_lost(guard, lot):
    return not any(on(letters, lot) for letters in kept_letters(guard))


def right_lost(guard, lot, value):
    if tells(value, "must not", 2):
        return is_kept(guard, value[1]) and on(value[1][1:], lot)
    if not tells(value, "may", 2) or not right_frame(guard, value[1]):
        return False
    return all(misses(word[1:], lot) for pair in value[1] for word in pair)


def right_moved(guard, lot, pairs, value):
    if not is_tuple(value, len(pairs)) or not all(is_tuple(row, 2) for row in value):
        return False
    for pair, row in zip(pairs, value):
        for word, numbers in zip(pair, row):
            if not is_numbers(numbers, len(guard.words)):
                return False
            parts = [guard.words[k][1:] for k in numbers] + [word[1:]]
            if not misses(by_letters(parts, guard.wires), lot):
                return False
    return True


def least_lots(guard):
    bad = [lot for lot in all_lots(guard.wires) if not may_be_lost(guard, lot)]
    return tuple(lot for lot in bad if not any(set(less) < set(lot) for less in bad))


def right_least_word(guard, value):
    those = kept_letters(guard)
    if not those:
        return same(value, (0, None))
    least = min(weight(letters) for letters in those)
    if not is_tuple(value, 2) or not same(value[0], least):
        return False
    return is_kept(guard, value[1]) and weight(value[1][1:]) == least


def right_apart(guard, one, other, value):
    missing = [word for word in group(guard) if misses(word[1:], one) or misses(word[1:], other)]
    if tells(value, "tied", 2):
        if not is_word(value[1], guard.wires) or kind_name(guard, value[1]) != "seen":
            return False
        return not any(words_cross(word, value[1]) for word in missing)
    if not tells(value, "apart", 2) or not is_tuple(value[1], len(guard.words)):
        return False
    return all(is_in(word, missing) for word in value[1]) and is_independent(parts_of(value[1]), guard.wires)


def all_kinds(guard):
    return {word: kind_name(guard, word) for word in all_words(guard.wires)}


