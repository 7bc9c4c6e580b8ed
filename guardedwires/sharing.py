"""What the two sides of a guard share, and gates on either side that show it plainly."""

from guardedwires.errors import BadSide
from guardedwires.groups import base_words, group_words_on, kind_of, rows_of_words, word_made
from guardedwires.leading import all_led, places_of
from guardedwires.letters import rest_of
from guardedwires.rows import beside, marks_on, mask_of, numbers_in, parting_masks, rows_cross, rows_on
from guardedwires.spans import word_gates
from guardedwires.values import is_gates, is_lot, is_tuple_of


def need_side(guard, value):
    """BadSide unless it is a lot of one wire or more, but not of all."""
    if not is_lot(value, guard.wires) or not 0 < len(value) < guard.wires:
        raise BadSide(value)


def crossing_table(rows, wires):
    """For each of these rows the mask of the numbers of those that cross it."""
    return [mask_of([number for number, its in enumerate(rows) if rows_cross(row, its, wires)]) for row in rows]


def shared(guard, side):
    """(pairs, signs, own, far): what the side and its rest share, and what each of both has for itself."""
    need_side(guard, side)
    rows = rows_of_words(guard.words)
    marks = marks_on(side, guard.wires)
    pairs = len(beside([], crossing_table([row & marks for row in rows], guard.wires))) // 2
    own = len(rows_on(rows, side, guard.wires))
    far = len(rows_on(rows, rest_of(side, guard.wires), guard.wires))
    return pairs, len(rows) - own - far - 2 * pairs, own, far


def shared_words(guard, side):
    """(own, far, signs, paired): a base of the group; on the side paired ones cross just their neighbours there."""
    wires = guard.wires
    own = group_words_on(guard.words, side, wires)
    far = group_words_on(guard.words, rest_of(side, wires), wires)
    others = base_words(own + far + list(guard.words))[len(own) + len(far):]
    marks = marks_on(side, wires)
    lone, pairs = parting_masks([row & marks for row in rows_of_words(others)], wires)
    signs = [word_made(others, numbers_in(mask), wires) for mask in lone]
    paired = [word_made(others, numbers_in(mask), wires) for pair in pairs for mask in pair]
    return own, far, signs, paired


def part_on(word, lot):
    """The word along the lot, with its sign, that this one has there."""
    return word[0] + "".join([word[1 + wire] for wire in lot])


def plain_word(letter, places, wires):
    """The word with +, this letter at these places and I at all other wires."""
    return "+" + "".join([letter if wire in places else "I" for wire in range(wires)])


def plain_along(wires, lone, pairs):
    """Z at each of the first wires, then X, and Z, at each of the next ones."""
    words = [plain_word("Z", (wire,), wires) for wire in range(lone)]
    for wire in range(lone, lone + pairs):
        words = words + [plain_word("X", (wire,), wires), plain_word("Z", (wire,), wires)]
    return words


def gates_along(words, lone, lot):
    """Gates on the lot alone that lead these words along it to plain ones, the first so many to Z alone."""
    plain = plain_along(len(lot), lone, (len(words) - lone) // 2)
    told = word_gates(len(lot), tuple(words), tuple(plain))[1]
    named = [(gate.split(" ")[0], places_of(gate)) for gate in told]
    return tuple([" ".join([name] + [str(lot[place]) for place in places]) for name, places in named])


def brought(guard, side):
    """(gates, others), on wires of the side, and of its rest, that lead the group to the plain one."""
    need_side(guard, side)
    rest = rest_of(side, guard.wires)
    own, far, signs, paired = shared_words(guard, side)
    mine = [part_on(word, side) for word in own + signs + paired]
    # The part on the side has taken the sign of the whole word along.
    its = [part_on(word, rest) for word in far] + ["+" + part_on(word, rest)[1:] for word in signs + paired]
    return gates_along(mine, len(own + signs), side), gates_along(its, len(far + signs), rest)


def plain_group(guard, side):
    """The words that make the plain group of what is shared by this side."""
    pairs, signs, own, far = shared(guard, side)
    rest = rest_of(side, guard.wires)
    places = [(side[number],) for number in range(own)] + [(rest[number],) for number in range(far)]
    places = places + [(side[own + number], rest[far + number]) for number in range(signs)]
    words = [plain_word("Z", some, guard.wires) for some in places]
    for number in range(signs, signs + pairs):
        some = (side[own + number], rest[far + number])
        words = words + [plain_word("X", some, guard.wires), plain_word("Z", some, guard.wires)]
    return words


def is_gates_on(value, lot, wires):
    """Whether it is gates of so many wires, on wires of the lot alone."""
    return is_gates(value, wires) and all([place in lot for gate in value for place in places_of(gate)])


def shows_brought(guard, side, value):
    """Whether this is such a result as is told for brought."""
    plain = plain_group(guard, side)
    if not is_tuple_of(value, 2) or not is_gates_on(value[0], side, guard.wires):
        return False
    if not is_gates_on(value[1], rest_of(side, guard.wires), guard.wires):
        return False
    came = all_led(all_led(guard.words, value[0]), value[1])
    return all([kind_of(plain, word) == "guard" for word in came])
