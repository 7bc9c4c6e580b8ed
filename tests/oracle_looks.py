"""What DOC.md says of counting, mending, looks and what they read, by going through all words, apart from the package.

Of a Guard only `wires` and `words` are read here.
"""

from functools import lru_cache
from itertools import combinations

from tests.oracle import (all_letters, all_lots, by_letters, contrary, cross, is_in, is_int, is_letters, is_tuple,
                          is_word, on, same, some_of, tells, weight, word_of, words_cross)
from tests.oracle_guards import (dimension, group, group_letters, is_beside, is_kept, kept_letters, likeness,
                                 passing_guard, right_frame, signs)


def is_looks(value, n):
    return is_tuple(value) and len(value) <= 99 and all(is_word(word, n) for word in value)


def beside_group(guard, letters):
    """These letters times all letters of the group."""
    return {by_letters([letters, its], guard.wires) for its in group_letters(guard)}


# Section 12

def count_weights(n, those):
    return tuple(len([1 for letters in those if weight(letters) == k]) for k in range(n + 1))


@lru_cache(None)
def balance(n, i, j):
    some = "X" * i + "I" * (n - i)
    return sum(-1 if cross(some, letters) else 1 for letters in all_letters(n) if weight(letters) == j)


def other_row(row):
    """The row, or None if BadRow is to be raised."""
    if not is_tuple(row) or not 2 <= len(row) <= 7 or not all(is_int(k) and k >= 0 for k in row) or row[0] != 1:
        return None
    n = len(row) - 1
    told = []
    for j in range(n + 1):
        total = sum(row[i] * balance(n, i, j) for i in range(n + 1))
        if total < 0 or total % sum(row):
            return None
        told.append(total // sum(row))
    return tuple(told)


def by_lots(guard):
    return tuple((lot, dimension([letters for letters in group_letters(guard) if on(letters, lot)]),
                  dimension([letters for letters in passing_guard(guard) if on(letters, lot)]))
                 for lot in all_lots(guard.wires))


# Section 13

def is_faults(value, n):
    if not is_tuple(value) or not 1 <= len(value) <= 40 or not all(is_letters(letters, n) for letters in value):
        return False
    return list(value) == sorted(set(value))


def akin(guard, one, other):
    return by_letters([one, other], guard.wires) in group_letters(guard)


def is_table(guard, value):
    if not is_tuple(value) or not all(is_tuple(row, 2) and is_letters(row[1], guard.wires) for row in value):
        return False
    if not all(same(row[0], signs(guard, row[1])) for row in value):
        return False
    return [row[0] for row in value] == sorted({row[0] for row in value})


def mends(guard, table, letters):
    return any(row[0] == signs(guard, letters) and akin(guard, row[1], letters) for row in table)


def has_just_their_signs(guard, faults, table):
    return {row[0] for row in table} == {signs(guard, letters) for letters in faults}


def spoil(guard, one, other):
    return signs(guard, one) == signs(guard, other) and not akin(guard, one, other)


def right_mended(guard, faults, value):
    if tells(value, "spoils", 3):
        one, other = value[1:]
        if not is_in(one, faults) or not is_in(other, faults) or faults.index(one) >= faults.index(other):
            return False
        return spoil(guard, one, other)
    if not tells(value, "table", 2) or not is_table(guard, value[1]):
        return False
    return has_just_their_signs(guard, faults, value[1]) and all(mends(guard, value[1], one) for one in faults)


def weight_mended(guard, faults, weights, table):
    return sum(weight for letters, weight in zip(faults, weights) if mends(guard, table, letters))


def most_weight(guard, faults, weights):
    """By all letters as answers."""
    total = 0
    for its in {signs(guard, letters) for letters in faults}:
        answers = [letters for letters in all_letters(guard.wires) if signs(guard, letters) == its]
        total += max(weight_mended(guard, faults, weights, ((its, letters),)) for letters in answers)
    return total


def right_best_table(guard, faults, weights, value):
    best = most_weight(guard, faults, weights)
    if not is_tuple(value, 2) or not same(value[0], best) or not is_table(guard, value[1]):
        return False
    return has_just_their_signs(guard, faults, value[1]) and weight_mended(guard, faults, weights, value[1]) == best


def answered(guard, table, letters):
    for its, answer in table:
        if its == signs(guard, letters):
            product = by_letters([letters, answer], guard.wires)
            return ("mended",) if product in group_letters(guard) else ("turned", product)
    return ("none",)


@lru_cache(None)
def spoiling_of(guard_text, most):
    from guardedwires.guards import Guard
    guard = Guard(guard_text)
    small = sorted(letters for letters in all_letters(guard.wires) if weight(letters) <= most)
    return frozenset(both for both in combinations(small, 2) if spoil(guard, *both))


def right_two_faults(guard, most, value):
    spoiling = spoiling_of(guard.text, most)
    if not spoiling:
        return value is None
    return is_tuple(value, 2) and all(is_letters(part, guard.wires) for part in value) and value in spoiling


def right_most_mended(guard, value):
    number = max(most for most in range(guard.wires + 1) if not spoiling_of(guard.text, most))
    if not is_tuple(value, 2) or not same(value[0], number):
        return False
    kept = kept_letters(guard)
    if not kept:
        return value[1] is None
    return is_in(value[1], kept) and weight(value[1]) == min(weight(letters) for letters in kept)


# Sections 14 to 17: groups as sets of words

def group_behind(those, word):
    """The words of the group that pass this one, and it, and what they make."""
    there = [its for its in those if not words_cross(its, word)]
    return frozenset(there + [word_of([its, word], len(word) - 1) for its in there])


def groups_ahead(guard, looks):
    """(groups ahead of each look and behind all, number of the first look that can never be, or None)."""
    found = [group(guard)]
    for number, word in enumerate(looks):
        if contrary(word) in found[-1]:
            return found, number
        found.append(group_behind(found[-1], word))
    return found, None


def kind_by(those, word):
    if word in those:
        return "guard"
    if contrary(word) in those:
        return "contrary"
    return "seen" if any(words_cross(word, its) for its in those) else "kept"


def foretold(guard, letters):
    for number, word in enumerate(guard.words):
        if cross(word[1:], letters):
            return ("falls", number)
    for sign in "+-":
        if sign + letters in group(guard):
            return ("sure", sign)
    return ("reads",)


def looked(words, word):
    """As section 14 says it of seen words."""
    crossing = [its for its in words if words_cross(its, word)]
    told = []
    for its in words:
        if its == crossing[0]:
            told.append(word)
        else:
            told.append(word_of([its, crossing[0]], len(word) - 1) if its in crossing else its)
    return tuple(told)


def went(words, pairs, word):
    crossing = [its for its in words if words_cross(its, word)]
    return tuple(tuple(word_of([its, crossing[0]], len(word) - 1) if words_cross(its, word) else its for its in pair)
                 for pair in pairs)


def all_went(words, pairs, looks):
    """(words, pairs, refusal): refusal None, or (its name, number)."""
    for number, word in enumerate(looks):
        those = {word_of([words[k] for k in numbers], len(word) - 1) for numbers in some_of(words)}
        name = kind_by(those, word)
        if name in ("contrary", "kept"):
            return words, pairs, (name, number)
        pairs = went(words, pairs, word)
        words = looked(words, word) if name == "seen" else words
    return words, pairs, None


def all_seen(guard, looks):
    groups = [group(guard)]
    for word in looks:
        if kind_by(groups[-1], word) != "seen":
            return None
        groups.append(group_behind(groups[-1], word))
    return groups[-1]


# Section 15

def absent_and_crossing(guard, goal):
    there = group(guard) & group(goal)
    rows = [tuple(words_cross(word, its) for its in goal.words) for word in guard.words]
    sums = {tuple(sum(rows[k][at] for k in numbers) % 2 for at in range(len(goal.words))) for numbers in some_of(rows)}
    return len(goal.words) - dimension(there), dimension(sums)


def looks_left(guard, goal):
    absent, crossing = absent_and_crossing(guard, goal)
    return 2 * absent - crossing


def right_fewest(guard, goal, value):
    number = looks_left(guard, goal)
    if not is_tuple(value, 2) or not same(value[0], number) or not is_looks(value[1], guard.wires):
        return False
    return len(value[1]) == number and all_seen(guard, value[1]) == group(goal)


def right_flips(guard, goal, value):
    from tests.oracle import is_gates, led
    if not is_gates(value, guard.wires) or len(set(value)) != len(value):
        return False
    if not all(gate[0] in "xz" for gate in value):
        return False
    return {led(word, value) for word in group(guard)} == group(goal)


# Section 16

def frame_alike(guard, pairs, other):
    return all(likeness(guard, word, its) == "alike" for pair, mine in zip(pairs, other)
               for word, its in zip(pair, mine))


def right_turned_by(guard, pairs, word, value):
    if not is_tuple(value, 2) or not is_looks(value[0], guard.wires) or len(value[0]) != 3:
        return False
    if all_seen(guard, value[0]) != group(guard):
        return False
    later = all_went(guard.words, pairs, value[0])[1]
    if not same(value[1], later):
        return False
    for pair, its in zip(pairs, later):
        for one, come in zip(pair, its):
            if not words_cross(one, word):
                if likeness(guard, one, come) != "alike":
                    return False
            elif by_letters([one[1:], word[1:], come[1:]], guard.wires) not in group_letters(guard):
                return False
    return True


def right_steer(guard, pairs, other, value):
    if not is_looks(value, guard.wires) or all_seen(guard, value) != group(guard):
        return False
    later = all_went(guard.words, pairs, value)[1]
    return right_frame(guard, later) and frame_alike(guard, later, other)


# Section 17

def read_by(guard, looks):
    """The letters of all kept words that the looks read: each is led along by itself."""
    groups = groups_ahead(guard, looks)[0]
    found = set()
    for letters in kept_letters(guard):
        came = gone_on(groups, letters, looks)
        if came is not None and any(came == its[1:] for its in groups[-1]):
            found.add(letters)
    return found


def gone_on(groups, letters, looks):
    """What these kept letters come to; None if they are spoilt."""
    for those, word in zip(groups, looks):
        if cross(letters, word[1:]):
            crossing = sorted(its for its in those if words_cross(its, word))
            if not crossing:
                return None
            letters = by_letters([letters, crossing[-1][1:]], len(letters))
    return letters


def made_beside(guard, parts):
    """The letters of all products of one or more of these letters and of a word of the group."""
    made = [by_letters([parts[k] for k in numbers], guard.wires) for numbers in some_of(parts) if numbers]
    return {letters for one in made for letters in beside_group(guard, one)}


def right_reads(guard, looks, value):
    if not is_tuple(value, 2) or not all(is_tuple(part) for part in value):
        return False
    read, left = value
    if not all(is_kept(guard, word) for word in read) or len(read) > 6:
        return False
    parts = [word[1:] for word in read]
    if any(cross(one, other) for one, other in combinations(parts, 2)) or not is_beside(guard, parts):
        return False
    if made_beside(guard, parts) != read_by(guard, looks):
        return False
    if len(left) != guard.wires - len(guard.words) - len(read) or not all(is_tuple(pair, 2) for pair in left):
        return False
    words = [word for pair in left for word in pair]
    if not all(is_kept(guard, word) for word in words):
        return False
    if any(words_cross(word, its) for word in words for its in read):
        return False
    return all(words_cross(words[a], words[b]) == (a // 2 == b // 2) for a, b in combinations(range(len(words)), 2))


def first_reading(guard, looks):
    groups = groups_ahead(guard, looks)[0]
    return next((k for k, word in enumerate(looks) if kind_by(groups[k], word) == "kept"), None)


def right_read_alike(guard, looks, other, value):
    mine, its = read_by(guard, looks), read_by(guard, other)
    if tells(value, "parts", 2):
        return is_kept(guard, value[1]) and (value[1][1:] in mine) != (value[1][1:] in its)
    return same(value, ("alike",)) and mine == its
