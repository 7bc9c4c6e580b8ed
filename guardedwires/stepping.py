"""What looks make of a guard's words, and of words that it keeps: without the class."""

from guardedwires.errors import BadLooks, Never, Reads
from guardedwires.groups import all_of_group, kind_of, numbers_crossing
from guardedwires.letters import product_passing, words_cross
from guardedwires.values import is_looks


def need_looks(value, wires):
    """BadLooks unless it is none to 99 words of so many wires."""
    if not is_looks(value, wires):
        raise BadLooks(value)


def need_unread(words, word, value):
    """Never, or Reads, with this value, unless the word is of the group or seen."""
    found = kind_of(words, word)
    if found == "contrary":
        raise Never(value)
    if found == "kept":
        raise Reads(value)


def word_behind(words, one, word):
    """Where this one, which passes the guard, goes on to by a look at a word of the group, or a seen one."""
    if not words_cross(one, word):
        return one
    return product_passing(one, words[numbers_crossing(words, word[1:])[0]])


def words_behind(words, word):
    """The guard's words behind a look at a word of the group, or a seen one."""
    crossing = numbers_crossing(words, word[1:])
    behind = [word_behind(words, one, word) for one in words]
    for number in crossing[:1]:
        behind[number] = word
    return behind


def pairs_behind(words, pairs, word):
    """Where a frame's words go on to by a look at a word of the group, or a seen one."""
    return tuple([(word_behind(words, one, word), word_behind(words, mate, word)) for one, mate in pairs])


def all_behind(words, pairs, looks):
    """(words, pairs) behind these looks; Never, or Reads, with the number of the first one that is refused."""
    for number, word in enumerate(looks):
        need_unread(words, word, number)
        pairs = pairs_behind(words, pairs, word)
        words = words_behind(words, word)
    return words, pairs


def leads_over(words, others, looks, wires):
    """Whether each of these looks is of a seen word at its turn, and the group behind them is that of others."""
    for word in looks:
        if kind_of(words, word) != "seen":
            return False
        words = words_behind(words, word)
    return is_same_group(words, others, wires)


def is_same_group(words, others, wires):
    """Whether both make the same group, with its signs."""
    return sorted(all_of_group(words, wires)) == sorted(all_of_group(others, wires))
