"""Words: which pass one another, what their product is, which are independent."""

from guardedwires.errors import BadWord, BadWords, Bent
from guardedwires.letters import product_of, product_of_two, turned_sign, wires_touched, words_cross
from guardedwires.needs import need_word
from guardedwires.rows import masks_of_nothing, numbers_in, rows_of
from guardedwires.values import MOST_MAKERS, is_exactly, is_numbers, is_told, is_word_of_any, is_words


def need_any_word(value):
    """BadWord unless it is a word of one to six wires."""
    if not is_word_of_any(value):
        raise BadWord(value)


def need_two_words(one, other):
    """BadWord for one, then for other, which has to have as many wires."""
    need_any_word(one)
    need_word(other, len(one) - 1)


def need_words(value):
    """BadWords unless it is a tuple of one to twelve words of as many wires."""
    if not isinstance(value, tuple) or len(value) == 0 or not is_word_of_any(value[0]):
        raise BadWords(value)
    if not is_words(value, 1, MOST_MAKERS, len(value[0]) - 1):
        raise BadWords(value)


def passes(one, other):
    """Whether these words pass one another."""
    need_two_words(one, other)
    return not words_cross(one, other)


def product(one, other):
    """(quarters, letters) of the product of these words."""
    need_two_words(one, other)
    return product_of_two(one, other)


def joined(words):
    """The word that is the product of all these, in sequence."""
    need_words(words)
    quarters, letters = product_of(words, len(words[0]) - 1)
    if quarters == 1 or quarters == 3:
        raise Bent(quarters)
    return ("+" if quarters == 0 else "-") + letters


def contrary(word):
    """The word with the other sign."""
    need_any_word(word)
    return turned_sign(word)


def touched(word):
    """The lot of the wires that this word touches."""
    need_any_word(word)
    return wires_touched(word[1:])


def independent(words):
    """("independent",), or ("product", numbers) of words whose product has the letters I alone."""
    need_words(words)
    idle = masks_of_nothing(rows_of([word[1:] for word in words]))
    if len(idle) == 0:
        return ("independent",)
    return ("product", numbers_in(idle[0]))


def shows_independent(words, value):
    """Whether this is such a result as is told for independent."""
    told = independent(words)
    if not is_told(value, "product", 2):
        return is_exactly(value, ("independent",)) and told == ("independent",)
    if not is_numbers(value[1], len(words)) or len(value[1]) == 0:
        return False
    letters = product_of([words[number] for number in value[1]], len(words[0]) - 1)[1]
    return wires_touched(letters) == ()
