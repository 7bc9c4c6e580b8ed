"""Gates: where they lead words, and which gates lead to a given table."""

from guardedwires.errors import BadTable, BadWord
from guardedwires.leading import back_gates, led_by, plain_words, table_of
from guardedwires.letters import cross_just_in_pairs
from guardedwires.needs import need_gates, need_wires
from guardedwires.tables import gates_to_plain, sign_gates
from guardedwires.values import MOST_WIRES, is_exactly, is_gates, is_told, is_tuple_of, is_word, is_word_of_any


def need_word_and_gates(word, gates):
    """BadWord, then BadGates unless the gates are of as many wires as the word."""
    if not is_word_of_any(word):
        raise BadWord(word)
    need_gates(gates, len(word) - 1)


def led(word, gates):
    """The word to which these gates lead this one."""
    need_word_and_gates(word, gates)
    return led_by(word, gates)


def back(word, gates):
    """The word that these gates lead to this one."""
    need_word_and_gates(word, gates)
    return led_by(word, back_gates(gates))


def table(wires, gates):
    """The table of these gates."""
    need_wires(wires)
    need_gates(gates, wires)
    return table_of(wires, gates)


def same_gates(wires, gates, other):
    """("same",) if both lead each word alike, otherwise ("apart", word) with one that they do not."""
    need_wires(wires)
    need_gates(gates, wires)
    need_gates(other, wires)
    for word in plain_words(wires):
        if led_by(word, gates) != led_by(word, other):
            return ("apart", word)
    return ("same",)


def shows_same_gates(wires, gates, other, value):
    """Whether this is such a result as is told for same_gates."""
    told = same_gates(wires, gates, other)
    if not is_told(value, "apart", 2):
        return is_exactly(value, ("same",)) and told == ("same",)
    if not is_word(value[1], wires):
        return False
    return led_by(value[1], gates) != led_by(value[1], other)


def is_rows_of_pairs(value):
    """Whether it is a tuple of one to six pairs of words, of as many wires as there are pairs."""
    if not isinstance(value, tuple) or not 1 <= len(value) <= MOST_WIRES:
        return False
    if not all([is_tuple_of(pair, 2) for pair in value]):
        return False
    return all([is_word(word, len(value)) for pair in value for word in pair])


def is_table(value):
    """Whether it is a table."""
    if not is_rows_of_pairs(value):
        return False
    return cross_just_in_pairs([word[1:] for pair in value for word in pair], [])


def need_table(value):
    """BadTable unless it is a table."""
    if not is_table(value):
        raise BadTable(value)


def gates_of(rows):
    """Gates whose table this is."""
    need_table(rows)
    wanted = [word for pair in rows for word in pair]
    gates = back_gates(gates_to_plain(wanted))
    came = [led_by(word, gates) for word in plain_words(len(rows))]
    return tuple(gates + sign_gates(came, wanted, len(rows)))


def shows_gates_of(rows, value):
    """Whether this is such a result as is told for gates_of."""
    need_table(rows)
    return is_gates(value, len(rows)) and table_of(len(rows), value) == rows
