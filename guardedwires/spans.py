"""Spans: what letters make, signs aside, and which gates lead one span to another one."""

from guardedwires.errors import BadBase
from guardedwires.leading import all_led
from guardedwires.letters import cross_just_in_pairs, letters_cross, words_cross
from guardedwires.needs import need_letters, need_makers, need_wires
from guardedwires.rows import beside, letters_of, mask_making, mask_of, masks_of_nothing, numbers_in, parting_masks
from guardedwires.rows import parting_rows, row_crossing, row_of, rows_of, sum_in
from guardedwires.tables import gates_between, sign_gates
from guardedwires.values import MOST_MAKERS, is_exactly, is_from_to, is_gates, is_letters, is_numbers, is_told
from guardedwires.values import is_tuple_of, is_words


def base_of(makers):
    """The rows of makers that are no product of some ahead of them."""
    return beside([], rows_of(makers))


def need_both_makers(wires, makers, others):
    """BadNumber, then BadMakers for makers, then for others."""
    need_makers(wires, makers)
    need_makers(wires, others)


def rank(wires, makers):
    """How many letters each base of the span has."""
    need_makers(wires, makers)
    return len(base_of(makers))


def firsts(wires, makers):
    """The numbers of all makers that are no product of some ahead of them."""
    need_makers(wires, makers)
    rows = rows_of(makers)
    return tuple([number for number, row in enumerate(rows) if mask_making(rows[:number], row) is None])


def bar(wires, makers, letters):
    """Letters that pass all makers and cross these, which are not of the span."""
    rows = rows_of(makers) + [row_of(letters)]
    return letters_of(row_crossing(rows, [0] * len(makers) + [1], wires), wires)


def is_bar(wires, makers, letters, value):
    """Whether it is letters that pass all makers and cross these."""
    if not is_letters(value, wires) or not letters_cross(value, letters):
        return False
    return not any([letters_cross(value, maker) for maker in makers])


def made(wires, makers, letters):
    """("made", numbers) of the makers whose product these letters are, or ("bar", other)."""
    need_makers(wires, makers)
    need_letters(letters, wires)
    mask = mask_making(rows_of(makers), row_of(letters))
    if mask is None:
        return ("bar", bar(wires, makers, letters))
    return ("made", numbers_in(mask))


def shows_made(wires, makers, letters, value):
    """Whether this is such a result as is told for made."""
    need_makers(wires, makers)
    need_letters(letters, wires)
    if is_told(value, "bar", 2):
        return is_bar(wires, makers, letters, value[1])
    if not is_told(value, "made", 2) or not is_numbers(value[1], len(makers)):
        return False
    return sum_in(rows_of(makers), mask_of(value[1])) == row_of(letters)


def within(wires, makers, others):
    """("within",) if all makers are of the span of others, otherwise ("apart", number, other)."""
    need_both_makers(wires, makers, others)
    rows = rows_of(others)
    for number, letters in enumerate(makers):
        if mask_making(rows, row_of(letters)) is None:
            return ("apart", number, bar(wires, others, letters))
    return ("within",)


def shows_within(wires, makers, others, value):
    """Whether this is such a result as is told for within."""
    told = within(wires, makers, others)
    if not is_told(value, "apart", 3):
        return is_exactly(value, ("within",)) and told == ("within",)
    if not is_from_to(value[1], 0, len(makers) - 1):
        return False
    return is_bar(wires, others, makers[value[1]], value[2])


def parted(wires, makers):
    """(lone, pairs): a parting of the span."""
    need_makers(wires, makers)
    lone, pairs = parting_rows(rows_of(makers), wires)
    told = [(letters_of(one, wires), letters_of(mate, wires)) for one, mate in pairs]
    return tuple([letters_of(row, wires) for row in lone]), tuple(told)


def is_letters_and_pairs(wires, value):
    """Whether it is (lone, pairs), lone a tuple of letters, pairs one of tuples of two letters."""
    if not is_tuple_of(value, 2) or not isinstance(value[0], tuple) or not isinstance(value[1], tuple):
        return False
    if not all([is_tuple_of(pair, 2) for pair in value[1]]):
        return False
    parts = list(value[0]) + [letters for pair in value[1] for letters in pair]
    return all([is_letters(letters, wires) for letters in parts])


def is_base(wires, makers, parts):
    """Whether these letters are a base of the span."""
    rows = rows_of(makers)
    if len(parts) != len(base_of(makers)) or len(base_of(parts)) != len(parts):
        return False
    return all([mask_making(rows, row_of(letters)) is not None for letters in parts])


def shows_parted(wires, makers, value):
    """Whether this is such a result as is told for parted."""
    need_makers(wires, makers)
    if not is_letters_and_pairs(wires, value):
        return False
    paired = [letters for pair in value[1] for letters in pair]
    return is_base(wires, makers, paired + list(value[0])) and cross_just_in_pairs(paired, value[0])


def sizes(wires, makers):
    """(how many lone ones, how many pairs) each parting of the span has."""
    need_makers(wires, makers)
    lone, pairs = parting_rows(rows_of(makers), wires)
    return len(lone), len(pairs)


def span_gates(wires, makers, others):
    """("gates", gates) that lead the one span to the other one, or ("sizes", mine, its)."""
    need_both_makers(wires, makers, others)
    mine = sizes(wires, makers)
    its = sizes(wires, others)
    if mine != its:
        return ("sizes", mine, its)
    here = parting_rows(rows_of(makers), wires)
    there = parting_rows(rows_of(others), wires)
    return ("gates", tuple(gates_between(here, there, wires)))


def shows_span_gates(wires, makers, others, value):
    """Whether this is such a result as is told for span_gates."""
    need_both_makers(wires, makers, others)
    if not is_told(value, "gates", 2):
        mine = sizes(wires, makers)
        its = sizes(wires, others)
        return mine != its and is_exactly(value, ("sizes", mine, its))
    if not is_gates(value[1], wires) or rank(wires, makers) != rank(wires, others):
        return False
    came = all_led(["+" + letters for letters in makers], value[1])
    return within(wires, tuple([word[1:] for word in came]), others) == ("within",)


def need_base(wires, words):
    """BadBase unless it is a tuple of none to twelve words whose letters are independent."""
    if not is_words(words, 0, MOST_MAKERS, wires):
        raise BadBase(words)
    if len(masks_of_nothing(rows_of([word[1:] for word in words]))) > 0:
        raise BadBase(words)


def need_both_bases(wires, words, others):
    """BadNumber, then BadBase for words, then for others, which have to be as many."""
    need_wires(wires)
    need_base(wires, words)
    need_base(wires, others)
    if len(others) != len(words):
        raise BadBase(others)


def unlike_crossing(words, others):
    """("crossing", one, other) of words that cross one another in just one of both tuples; None if none do."""
    for other in range(len(words)):
        for one in range(other):
            if words_cross(words[one], words[other]) != words_cross(others[one], others[other]):
                return ("crossing", one, other)
    return None


def parts_by(rows, lone, pairs):
    """(lone, pairs) of the sums of rows that these masks mean."""
    return [sum_in(rows, mask) for mask in lone], [(sum_in(rows, one), sum_in(rows, mate)) for one, mate in pairs]


def word_gates(wires, words, others):
    """("gates", gates) that lead each of words to the one of others there, or ("crossing", one, other)."""
    need_both_bases(wires, words, others)
    unlike = unlike_crossing(words, others)
    if unlike is not None:
        return unlike
    mine = rows_of([word[1:] for word in words])
    its = rows_of([word[1:] for word in others])
    # Both cross alike, so what parts the one parts the other one.
    lone, pairs = parting_masks(mine, wires)
    gates = gates_between(parts_by(mine, lone, pairs), parts_by(its, lone, pairs), wires)
    return ("gates", tuple(gates + sign_gates(all_led(words, gates), others, wires)))


def shows_word_gates(wires, words, others, value):
    """Whether this is such a result as is told for word_gates."""
    need_both_bases(wires, words, others)
    if is_told(value, "gates", 2):
        return is_gates(value[1], wires) and tuple(all_led(words, value[1])) == others
    if not is_told(value, "crossing", 3) or not is_numbers(value[1:], len(words)):
        return False
    one, other = value[1:]
    return words_cross(words[one], words[other]) != words_cross(others[one], others[other])
