"""What is done wire by wire: which of it leads a guard to itself, and what it does to the kept words."""

from guardedwires.errors import BadTurns, BadWish, NotDone, Wide
from guardedwires.frames import need_frame, words_in
from guardedwires.groups import numbers_making, rows_of_words
from guardedwires.letters import cross_just_in_pairs, letters_cross, lies_on, product_of
from guardedwires.rows import beside, halves_exchanged, is_odd, letters_of, row_of, rows_of, rows_on, rows_passing
from guardedwires.spans import bar, is_bar
from guardedwires.values import is_exactly, is_from_to, is_letters, is_numbers, is_told, is_tuple_of

TURNS = ("XYZ", "XZY", "YXZ", "YZX", "ZXY", "ZYX")
STAYS = "XYZ"
MOST_WORKED = 5


def is_turns(guard, value):
    """Whether it is a tuple with one turn for each wire."""
    return is_tuple_of(value, guard.wires) and all([turn in TURNS for turn in value])


def need_turns(guard, value):
    """BadTurns unless it is a tuple with one turn for each wire."""
    if not is_turns(guard, value):
        raise BadTurns(value)


def turned_letter(letter, turn):
    """What becomes of a letter by this turn."""
    return "I" if letter == "I" else turn[STAYS.index(letter)]


def turned_wires(letters, turns):
    """These letters, turned wire by wire."""
    return "".join([turned_letter(letter, turn) for letter, turn in zip(letters, turns)])


def letters_in(words):
    """The letters of these words."""
    return [word[1:] for word in words]


def keeps(guard, turns):
    """("keeps", rows), or ("out", number, letters) with letters that show which word is turned out of the group."""
    need_turns(guard, turns)
    rows = []
    for number, word in enumerate(guard.words):
        letters = turned_wires(word[1:], turns)
        numbers = numbers_making(guard.words, letters)
        if numbers is None:
            return ("out", number, bar(guard.wires, letters_in(guard.words), letters))
        rows.append(numbers)
    return ("keeps", tuple(rows))


def shows_keeps(guard, turns, value):
    """Whether this is such a result as is told for keeps."""
    told = keeps(guard, turns)
    if not is_told(value, "out", 3):
        return is_exactly(value, told)
    if not is_from_to(value[1], 0, len(guard.words) - 1):
        return False
    letters = turned_wires(guard.words[value[1]][1:], turns)
    return is_bar(guard.wires, letters_in(guard.words), letters, value[2])


def bars_by_wires(words, wires):
    """For each number of wires the letters on so many first ones that pass these words: a base of those that are new.

    Each is a pair: its row with both halves exchanged, and the letters.
    """
    passing = rows_passing(rows_of_words(words), wires)
    bars = []
    ahead = []
    for many in range(wires + 1):
        rows = rows_on(passing, tuple(range(many)), wires)
        bars.append([(halves_exchanged(row, wires), letters_of(row, wires)) for row in beside(ahead, rows)])
        ahead = rows
    return bars


def parts_by_turns(parts, wires):
    """For each wire, and each turn of it, the rows of what the letters of parts become there, with I elsewhere."""
    told = []
    for wire in range(wires):
        pads = ("I" * wire, "I" * (wires - 1 - wire))
        told.append([[row_of(pads[0] + turned_letter(letters[wire], turn) + pads[1]) for letters in parts]
                     for turn in TURNS])
    return told


def cases_for(bars, parts, turns, rows):
    """("turns", turns) for all wires that begin with these and do what is wished; otherwise cases for these turns.

    rows are those of what is wished, times what the letters of parts have become at the first wires.
    """
    for halves, letters in bars[len(turns)]:
        for number, row in enumerate(rows):
            if is_odd(halves & row):
                return ("out", number, letters)
    if len(turns) == len(parts):
        return ("turns", turns)
    cases = []
    for turn, its in zip(TURNS, parts[len(turns)]):
        told = cases_for(bars, parts, turns + (turn,), [row ^ part for row, part in zip(rows, its)])
        if told[0] == "turns":
            return told
        cases.append(told)
    return ("wires", tuple(cases))


def kept_from(bars, parts, wire):
    """For each turn that this wire can have behind XYZ at all wires ahead: turns that keep the guard."""
    found = []
    for number, turn in enumerate(TURNS):
        rows = parts[wire][number]
        for ahead in range(wire):
            rows = [row ^ part for row, part in zip(rows, parts[ahead][0])]
        told = cases_for(bars, parts, (STAYS,) * wire + (turn,), rows)
        if told[0] == "turns":
            found.append(told[1])
    return tuple(found)


def kept_turns(guard):
    """(many, rows): how many turns keep the guard, and turns of which all of these are made."""
    bars = bars_by_wires(guard.words, guard.wires)
    parts = parts_by_turns(letters_in(guard.words), guard.wires)
    rows = tuple([kept_from(bars, parts, wire) for wire in range(guard.wires)])
    many = 1
    for row in rows:
        many = many * len(row)
    return many, rows


def is_kept_from(guard, wire, value, told):
    """Whether it is turns that keep the guard and have, at wires up to this one, what those that were told have."""
    if not is_turns(guard, value) or value[:wire + 1] != told[:wire + 1]:
        return False
    return keeps(guard, value)[0] == "keeps"


def shows_kept_turns(guard, value):
    """Whether this is such a result as is told for kept_turns."""
    many, rows = kept_turns(guard)
    if not is_tuple_of(value, 2) or not is_from_to(value[0], many, many) or not is_tuple_of(value[1], len(rows)):
        return False
    for wire, row in enumerate(rows):
        if not is_tuple_of(value[1][wire], len(row)):
            return False
        if not all([is_kept_from(guard, wire, its, told) for its, told in zip(value[1][wire], row)]):
            return False
    return True


def numbers_told(words, letters):
    """The numbers of a frame's words whose product is, but for a word of the group, these kept letters."""
    # Of each pair the one is in the product just if the other one crosses it.
    return tuple([number for number in range(len(words)) if letters_cross(words[number ^ 1][1:], letters)])


def done_by(guard, pairs, turns):
    """For each word of the frame the numbers of its words whose product it is turned to, beside the guard."""
    need_frame(guard, pairs)
    if keeps(guard, turns)[0] == "out":
        raise NotDone(turns)
    words = words_in(pairs)
    return tuple([numbers_told(words, turned_wires(letters, turns)) for letters in letters_in(words)])


def wished_letters(guard, pairs, wish):
    """For each word of the frame the letters of the product that is wished for it."""
    words = words_in(pairs)
    return [product_of([words[number] for number in numbers], guard.wires)[1] for numbers in wish]


def is_wish(guard, pairs, value):
    """Whether it tells numbers of words for each word of the frame, products that cross as the words do."""
    many = 2 * len(pairs)
    if not is_tuple_of(value, many) or not all([is_numbers(numbers, many) for numbers in value]):
        return False
    return cross_just_in_pairs(wished_letters(guard, pairs, value), [])


def need_wish(guard, pairs, wish):
    """BadFrame; BadWish; Wide if there are too many wires."""
    need_frame(guard, pairs)
    if not is_wish(guard, pairs, wish):
        raise BadWish(wish)
    if guard.wires > MOST_WORKED:
        raise Wide(MOST_WORKED)


def work(guard, pairs, wish):
    """("turns", turns) that keep the guard and do what is wished, or ("none", cases)."""
    need_wish(guard, pairs, wish)
    parts = parts_by_turns(letters_in(list(guard.words) + words_in(pairs)), guard.wires)
    rows = [0] * len(guard.words) + rows_of(wished_letters(guard, pairs, wish))
    told = cases_for(bars_by_wires(guard.words, guard.wires), parts, (), rows)
    return told if told[0] == "turns" else ("none", told)


def is_out(guard, wished, turns, value):
    """Whether it is ("out", number, letters): letters that tell what these turns do from what is wished."""
    if not is_told(value, "out", 3) or not is_from_to(value[1], 0, len(wished) - 1):
        return False
    if not is_letters(value[2], guard.wires) or not lies_on(value[2], tuple(range(len(turns)))):
        return False
    if any([letters_cross(word[1:], value[2]) for word in guard.words]):
        return False
    letters, wish = wished[value[1]]
    return letters_cross(value[2], turned_wires(letters, turns)) != letters_cross(value[2], wish)


def is_cases(guard, wished, turns, value):
    """Whether it is cases for these turns of the first wires."""
    if not is_told(value, "wires", 2):
        return is_out(guard, wished, turns, value)
    if len(turns) == guard.wires or not is_tuple_of(value[1], len(TURNS)):
        return False
    return all([is_cases(guard, wished, turns + (turn,), part) for turn, part in zip(TURNS, value[1])])


def shows_work(guard, pairs, wish, value):
    """Whether this is such a result as is told for work."""
    need_wish(guard, pairs, wish)
    if is_told(value, "turns", 2):
        if not is_turns(guard, value[1]) or keeps(guard, value[1])[0] == "out":
            return False
        return done_by(guard, pairs, value[1]) == wish
    # A word of the guard must be turned to one of its group, which nothing crosses that passes the guard.
    wished = [(letters, "I" * guard.wires) for letters in letters_in(guard.words)]
    wished = wished + list(zip(letters_in(words_in(pairs)), wished_letters(guard, pairs, wish)))
    return is_told(value, "none", 2) and is_cases(guard, wished, (), value[1])
