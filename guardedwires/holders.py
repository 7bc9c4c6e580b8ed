"""Who of several holders of wires can tell all, a part, nothing of what is kept."""

from guardedwires.errors import BadHolders, BadNumbers
from guardedwires.frames import frame_of_rows, words_in
from guardedwires.groups import is_kept, kept_rows_on, rows_of_words
from guardedwires.kinds import alike_beside, times_guard
from guardedwires.letters import cross_just_in_pairs, lies_on, rest_of
from guardedwires.losing import kept_on, numbers_off
from guardedwires.needs import need_lot
from guardedwires.rows import beside, letters_of, numbers_in, parting_rows
from guardedwires.values import is_lot, is_numbers, is_pairs, is_tuple_of

MOST_HOLDERS = 4


def moved_off(guard, lot, word):
    """The word that is alike to this one beside the guard and misses the lot; there has to be one."""
    return times_guard(guard, word, numbers_off(guard, lot, word[1:]))


def told_on(guard, lot):
    """(own, lone, far): pairs of kept words on the lot, words that are there and off it, pairs that miss it."""
    need_lot(lot, guard.wires)
    wires = guard.wires
    lone, own = parting_rows(kept_rows_on(guard.words, lot, wires), wires)
    far = parting_rows(kept_rows_on(guard.words, rest_of(lot, wires), wires), wires)[1]
    both = ["+" + letters_of(row, wires) for row in lone]
    told = tuple([(word, moved_off(guard, lot, word)) for word in both])
    return frame_of_rows(own, wires), told, frame_of_rows(far, wires)


def is_three_parts(guard, value):
    """Whether it is three tuples of pairs of kept words, together as many as are kept."""
    if not is_tuple_of(value, 3) or not all([is_pairs(part) for part in value]):
        return False
    words = [word for part in value for word in words_in(part)]
    return len(words) == 2 * guard.kept and all([is_kept(guard.words, word, guard.wires) for word in words])


def all_lie_on(words, lot):
    """Whether all these words lie on the lot."""
    return all([lies_on(word[1:], lot) for word in words])


def shows_told_on(guard, lot, value):
    """Whether this is such a result as is told for told_on."""
    need_lot(lot, guard.wires)
    if not is_three_parts(guard, value):
        return False
    own, lone, far = value
    mine = [pair[0] for pair in lone]
    its = [pair[1] for pair in lone]
    if not all_lie_on(words_in(own) + mine, lot) or not all_lie_on(words_in(far) + its, rest_of(lot, guard.wires)):
        return False
    if not all([alike_beside(guard, pair[0], pair[1])[0] == "alike" for pair in lone]):
        return False
    rows = rows_of_words(words_in(own) + mine + words_in(far))
    if len(beside(rows_of_words(guard.words), rows)) != len(rows):
        return False
    paired = [word[1:] for word in words_in(own) + words_in(far)]
    return cross_just_in_pairs(paired, [word[1:] for word in mine + its])


def need_holders(guard, value):
    """BadHolders unless it is two to four lots of one wire or more, each wire in just one of them."""
    if not isinstance(value, tuple) or not 2 <= len(value) <= MOST_HOLDERS:
        raise BadHolders(value)
    if not all([is_lot(lot, guard.wires) and len(lot) > 0 for lot in value]):
        raise BadHolders(value)
    if sorted([wire for lot in value for wire in lot]) != list(range(guard.wires)):
        raise BadHolders(value)


def wires_of(holders, some):
    """The lot of all wires of these holders."""
    return tuple(sorted([wire for number in some for wire in holders[number]]))


def can_be_lost(guard, lot):
    """Whether no kept word lies on the lot."""
    return kept_on(guard, lot) is None


def tells_all(guard, holders, some):
    """Whether the wires of all other holders may be lost."""
    return can_be_lost(guard, rest_of(wires_of(holders, some), guard.wires))


def can_tell(guard, holders, some):
    """What these holders can tell of what is kept: "all", "nothing" or "part"."""
    need_holders(guard, holders)
    if not is_numbers(some, len(holders)):
        raise BadNumbers(some)
    if tells_all(guard, holders, some):
        return "all"
    return "nothing" if can_be_lost(guard, wires_of(holders, some)) else "part"


def groups_of(holders):
    """All groups of these holders: by how many, then as tuples."""
    some = [numbers_in(mask) for mask in range(1 << len(holders))]
    return [group for _, group in sorted([(len(group), group) for group in some])]


def is_lesser(group, other):
    """Whether all of the one group are in the other one, which has more."""
    return len(group) < len(other) and all([number in other for number in group])


def least_holders(guard, holders):
    """All groups that can tell all, but no lesser group within them can."""
    need_holders(guard, holders)
    able = [group for group in groups_of(holders) if tells_all(guard, holders, group)]
    return tuple([group for group in able if not any([is_lesser(other, group) for other in able])])


def blind_holders(guard, holders):
    """All groups whose wires may be lost, but those of no greater group with all of them may be."""
    need_holders(guard, holders)
    blind = [group for group in groups_of(holders) if can_be_lost(guard, wires_of(holders, group))]
    return tuple([group for group in blind if not any([is_lesser(group, other) for other in blind])])
