"""What words that pass one another, and are independent, make: of a guard's words, without the class."""

from guardedwires.errors import NotKept
from guardedwires.letters import by_letters, letters_cross, product_of, word_of
from guardedwires.rows import all_sums, beside, letters_of, mask_making, masks_of_nothing, numbers_in, row_of
from guardedwires.rows import rows_of, rows_on, rows_passing
from guardedwires.values import is_tuple_of, is_word


def rows_of_words(words):
    """The rows of the letters of these words."""
    return rows_of([word[1:] for word in words])


def is_independent(words):
    """Whether the letters of these words are independent."""
    return len(masks_of_nothing(rows_of_words(words))) == 0


def numbers_making(words, letters):
    """The ascending tuple of the numbers of words whose product has these letters; None if there is none."""
    mask = mask_making(rows_of_words(words), row_of(letters))
    return None if mask is None else numbers_in(mask)


def word_made(words, numbers, wires):
    """The product of the words with these numbers; they pass one another, so it is never bent."""
    quarters, letters = product_of([words[number] for number in numbers], wires)
    return word_of(quarters, letters)


def word_in_group(words, letters):
    """The word of the group with these letters; None if there is none."""
    numbers = numbers_making(words, letters)
    return None if numbers is None else word_made(words, numbers, len(letters))


def numbers_crossing(words, letters):
    """The ascending tuple of the numbers of words that cross these letters."""
    return tuple([number for number, word in enumerate(words) if letters_cross(word[1:], letters)])


def all_of_group(words, wires):
    """All words of the group."""
    return [word_made(words, numbers_in(mask), wires) for mask in range(1 << len(words))]


def kind_of(words, word):
    """What this word is to the guard: "guard", "contrary", "kept" or "seen"."""
    if len(numbers_crossing(words, word[1:])) > 0:
        return "seen"
    there = word_in_group(words, word[1:])
    if there is None:
        return "kept"
    return "guard" if there == word else "contrary"


def is_kept(words, value, wires):
    """Whether any value is a kept word."""
    return is_word(value, wires) and kind_of(words, value) == "kept"


def need_kept(words, word):
    """NotKept unless this word is kept."""
    if kind_of(words, word) != "kept":
        raise NotKept(word)


def base_words(words):
    """Those of these words that no product of some ahead of them has the letters of."""
    picked = []
    for word in words:
        if numbers_making(picked, word[1:]) is None:
            picked.append(word)
    return picked


def is_group_base(words, value, wires, many):
    """Whether any value is a tuple of so many independent words of the group."""
    if not is_tuple_of(value, many):
        return False
    if not all([is_word(word, wires) and kind_of(words, word) == "guard" for word in value]):
        return False
    return is_independent(value)


def group_words_on(words, lot, wires):
    """A base of all words of the group that lie on the lot."""
    rows = rows_on(rows_of_words(words), lot, wires)
    return [word_in_group(words, letters_of(row, wires)) for row in rows]


def kept_rows_on(words, lot, wires):
    """Rows of kept words that lie on the lot, independent beside the guard, as many as can be."""
    rows = rows_of_words(words)
    return beside(rows, rows_on(rows_passing(rows, wires), lot, wires))


def rows_kept(words, wires):
    """The rows of all kept words."""
    rows = rows_of_words(words)
    group = {row: True for row in all_sums(rows)}
    return [row for row in all_sums(rows_passing(rows, wires)) if row not in group]


def is_like_but_sign(words, one, other):
    """Whether these kept words are alike beside the guard but for their signs."""
    return numbers_making(words, by_letters(one[1:], other[1:])) is not None
