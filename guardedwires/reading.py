"""What any row of looks reads, spoils and leaves."""

from guardedwires.errors import Never
from guardedwires.frames import frame_of_rows, words_in
from guardedwires.groups import is_kept, kind_of, numbers_crossing, rows_of_words
from guardedwires.guards import guard_of, in_steps
from guardedwires.letters import cross_just_in_pairs
from guardedwires.rows import beside, letters_of, mask_making, masks_of_nothing, parting_rows, row_of, rows_cross
from guardedwires.rows import rows_passing, sum_in
from guardedwires.stepping import need_looks, words_behind
from guardedwires.values import is_exactly, is_pairs, is_told, is_tuple_of


def words_told(words, word):
    """The guard's words behind a look at a word of the group, a seen or a kept one."""
    if kind_of(words, word) == "kept":
        return list(words) + [word]
    return words_behind(words, word)


def words_ahead(guard, looks):
    """The guard's words ahead of each of these looks, and behind all; Never with the number of the first such one."""
    rows = [list(guard.words)]
    for number, word in enumerate(looks):
        if kind_of(rows[number], word) == "contrary":
            raise Never(number)
        rows.append(words_told(rows[number], word))
    return rows


def behind(guard, looks):
    """The Guard in steps behind all these looks."""
    need_looks(looks, guard.wires)
    return in_steps(guard_of(guard.wires, words_ahead(guard, looks)[-1]))


def gone_by_seen(parts, first, row, wires):
    """What becomes of (first row, row now) by a look at a seen row, first being of the group and crossing it."""
    return [(at_first, now ^ first) if rows_cross(now, row, wires) else (at_first, now) for at_first, now in parts]


def gone_by_kept(parts, row, wires):
    """What becomes of (first row, row now) by a look at a row that is crossed by none of the group."""
    spoilt = [part for part in parts if rows_cross(part[1], row, wires)]
    going = [part for part in parts if part not in spoilt]
    # Of what is spoilt each two make something that goes on.
    return going + [(part[0] ^ spoilt[0][0], part[1] ^ spoilt[0][1]) for part in spoilt[1:]]


def gone_on(parts, words, word, wires):
    """What becomes of (first row, row now) by a look at this word, the guard's words being these."""
    row = row_of(word[1:])
    crossing = numbers_crossing(words, word[1:])
    if len(crossing) == 0:
        return gone_by_kept(parts, row, wires)
    return gone_by_seen(parts, row_of(words[crossing[0]][1:]), row, wires)


def rows_read(guard, looks):
    """A base, beside the guard, of the rows of all words that are read."""
    rows = rows_of_words(guard.words)
    parts = [(row, row) for row in beside(rows, rows_passing(rows, guard.wires))]
    ahead = words_ahead(guard, looks)
    for words, word in zip(ahead, looks):
        parts = gone_on(parts, words, word, guard.wires)
    last = rows_of_words(ahead[-1])
    idle = masks_of_nothing(last + [now for _, now in parts])
    return [sum_in([at_first for at_first, _ in parts], mask >> len(last)) for mask in idle]


def reads(guard, looks):
    """(read, left): words by which all that is read is told, and pairs by which all that is left is."""
    need_looks(looks, guard.wires)
    rows = rows_read(guard, looks)
    pairs = parting_rows(rows_passing(rows_of_words(guard.words) + rows, guard.wires), guard.wires)[1]
    return tuple(["+" + letters_of(row, guard.wires) for row in rows]), frame_of_rows(pairs, guard.wires)


def is_read(guard, rows, word):
    """Whether this kept word is made, by letters, of these rows and a word of the group."""
    return mask_making(rows_of_words(guard.words) + rows, row_of(word[1:])) is not None


def shows_reads(guard, looks, value):
    """Whether this is such a result as is told for reads."""
    need_looks(looks, guard.wires)
    rows = rows_read(guard, looks)
    if not is_tuple_of(value, 2) or not is_tuple_of(value[0], len(rows)) or not is_pairs(value[1]):
        return False
    left = words_in(value[1])
    if not all([is_kept(guard.words, word, guard.wires) for word in list(value[0]) + left]):
        return False
    its = rows_of_words(value[0])
    if not all([is_read(guard, rows, word) for word in value[0]]):
        return False
    if len(beside(rows_of_words(guard.words), its)) != len(rows) or len(value[1]) != guard.kept - len(rows):
        return False
    return cross_just_in_pairs([word[1:] for word in left], [word[1:] for word in value[0]])


def first_reading(guard, looks):
    """The number of the first look whose word is kept as the guard is then; None if there is none."""
    need_looks(looks, guard.wires)
    ahead = words_ahead(guard, looks)
    for number, word in enumerate(looks):
        if kind_of(ahead[number], word) == "kept":
            return number
    return None


def need_two_looks(guard, looks, other):
    """BadLooks for looks, then for other; Never for looks, then for other: (rows, its), what each of both reads."""
    need_looks(looks, guard.wires)
    need_looks(other, guard.wires)
    return rows_read(guard, looks), rows_read(guard, other)


def read_alike(guard, looks, other):
    """("alike",) if both read the same words, otherwise ("parts", word) with one that just one of them reads."""
    rows, its = need_two_looks(guard, looks, other)
    words = rows_of_words(guard.words)
    apart = beside(words + its, rows) + beside(words + rows, its)
    if len(apart) == 0:
        return ("alike",)
    return ("parts", "+" + letters_of(apart[0], guard.wires))


def shows_read_alike(guard, looks, other, value):
    """Whether this is such a result as is told for read_alike."""
    rows, its = need_two_looks(guard, looks, other)
    if is_told(value, "parts", 2):
        if not is_kept(guard.words, value[1], guard.wires):
            return False
        return is_read(guard, rows, value[1]) != is_read(guard, its, value[1])
    return is_exactly(value, ("alike",)) and read_alike(guard, looks, other) == ("alike",)
