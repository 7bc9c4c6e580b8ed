"""The fewest looks that lead one guard over to another one, nothing being read."""

from guardedwires.errors import OtherLetters, OtherMany
from guardedwires.groups import all_of_group, kind_of, numbers_crossing, rows_of_words, word_in_group
from guardedwires.guards import need_same_wires
from guardedwires.leading import all_led
from guardedwires.rows import beside, letters_of, mask_of, row_crossing
from guardedwires.stepping import is_same_group, leads_over, need_looks, need_unread, words_behind
from guardedwires.tables import sign_gates
from guardedwires.values import is_from_to, is_gate, is_looks, is_tuple_of


def need_goal(guard, goal):
    """OtherWires, OtherMany unless goal is a Guard of as many wires and words."""
    need_same_wires(guard, goal)
    if len(goal.words) != len(guard.words):
        raise OtherMany(goal)


def words_there(words, goal, wires):
    """All words of the goal's group that are of the other one, with their signs."""
    mine = {word: True for word in all_of_group(words, wires)}
    return [word for word in all_of_group(goal, wires) if word in mine]


def how_far(words, goal, wires):
    """(absent, crossing) of these words and those of the goal."""
    there = len(words_there(words, goal, wires))
    table = [mask_of(numbers_crossing(goal, word[1:])) for word in words]
    # There are twice as many words there for each independent one.
    return len(goal) - (there.bit_length() - 1), len(beside([], table))


def looks_left(words, goal, wires):
    """How many looks there have to be still."""
    absent, crossing = how_far(words, goal, wires)
    return 2 * absent - crossing


def absent_and_crossing(guard, goal):
    """(absent, crossing): how many words of goal are not there, how much both cross one another."""
    need_goal(guard, goal)
    return how_far(guard.words, goal.words, guard.wires)


def crossing_both(words, goal, wires):
    """A word that passes all that is there, and crosses something else of each of both groups, which pass."""
    mine = [word for word in words if kind_of(goal, word) != "guard"][:1]
    its = [word for word in goal if kind_of(words, word) != "guard"][:1]
    there = words_there(words, goal, wires)
    wanted = [0] * len(there) + [1, 1]
    return "+" + letters_of(row_crossing(rows_of_words(there + mine + its), wanted, wires), wires)


def next_look(words, goal, wires):
    """A look by which one look less is left."""
    for word in goal:
        if len(numbers_crossing(words, word[1:])) > 0:
            return word
    return crossing_both(words, goal, wires)


def fewest(guard, goal):
    """(number, looks): as few looks as can be that lead guard over to goal."""
    need_goal(guard, goal)
    words = guard.words
    looks = []
    while looks_left(words, goal.words, guard.wires) > 0:
        word = next_look(words, goal.words, guard.wires)
        looks.append(word)
        words = words_behind(words, word)
    return len(looks), tuple(looks)


def shows_fewest(guard, goal, value):
    """Whether this is such a result as is told for fewest."""
    need_goal(guard, goal)
    least = looks_left(guard.words, goal.words, guard.wires)
    if not is_tuple_of(value, 2) or not is_from_to(value[0], least, least):
        return False
    if not is_looks(value[1], guard.wires) or len(value[1]) != least:
        return False
    return leads_over(guard.words, goal.words, value[1], guard.wires)


def numbers(guard, goal, looks):
    """How many looks have to be still, ahead of the first one of these, and behind each."""
    need_goal(guard, goal)
    need_looks(looks, guard.wires)
    words = guard.words
    told = [looks_left(words, goal.words, guard.wires)]
    for number, word in enumerate(looks):
        need_unread(words, word, number)
        words = words_behind(words, word)
        told.append(looks_left(words, goal.words, guard.wires))
    return tuple(told)


def need_same_letters(guard, goal):
    """OtherWires, OtherMany; OtherLetters unless the groups are alike but for signs."""
    need_goal(guard, goal)
    if any([word_in_group(goal.words, word[1:]) is None for word in guard.words]):
        raise OtherLetters(goal)


def flips(guard, goal):
    """Gates x and z that lead the one group to the other one."""
    need_same_letters(guard, goal)
    wanted = [word_in_group(goal.words, word[1:]) for word in guard.words]
    return tuple(sign_gates(guard.words, wanted, guard.wires))


def is_flips(value, wires):
    """Whether it is a tuple of gates x and z, none twice."""
    if not isinstance(value, tuple):
        return False
    if not all([is_gate(gate, wires) and gate[:2] in ("x ", "z ") for gate in value]):
        return False
    return all([value.count(gate) == 1 for gate in value])


def shows_flips(guard, goal, value):
    """Whether this is such a result as is told for flips."""
    need_same_letters(guard, goal)
    if not is_flips(value, guard.wires):
        return False
    return is_same_group(all_led(guard.words, value), goal.words, guard.wires)
