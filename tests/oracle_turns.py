"""What DOC.md says of turns, flows, knobs, work and choices, by going through all words, apart from the package.

Of a Guard only `wires` and `words` are read here.
"""

from functools import lru_cache
from itertools import combinations, permutations, product

from tests.oracle import (all_letters, by_letters, contrary, cross, is_gates, is_in, is_int, is_numbers,
                          is_tuple, is_word, led, on, same, some_of, tells, times, weight, words_cross)
from tests.oracle_guards import (group, group_letters, group_of, is_kept, kept_letters, kind_name, likeness,
                                 may_be_lost, passing_guard, signs)
from tests.oracle_sides import cut, is_net, is_single, net_words, rest_of, tied


# Section 21

def turned(net, wire, many):
    """By what is told of each two wires."""
    ties = []
    for one, other in combinations(range(many), 2):
        both = tied(net, one, wire) and tied(net, other, wire)
        if tied(net, one, other) != both:
            ties.append((one, other))
    return tuple(ties)


def turned_along(net, wires, many):
    for wire in wires:
        net = turned(net, wire, many)
    return net


@lru_cache(None)
def far(many, net):
    """How many turns lead to each net that comes of this one."""
    found, rows = {net: 0}, [net]
    for one in rows:
        for wire in range(many):
            other = turned(one, wire, many)
            if other not in found:
                found[other] = found[one] + 1
                rows.append(other)
    return found


@lru_cache(None)
def words_led(words, gates):
    return frozenset(led(word, gates) for word in words)


def leads_to_net(many, those, gates, net):
    """Whether these gates lead all these words to those of the net's group."""
    return is_single(gates, many) and words_led(those, gates) == group_of(many, net_words(many, net))


def is_wires(value, many):
    return is_tuple(value) and all(is_int(wire) and 0 <= wire < many for wire in value)


def right_one_net(many, net, other, value):
    if tells(value, "apart", 2):
        return is_numbers(value[1], many) and cut(many, net, value[1]) != cut(many, other, value[1])
    if not tells(value, "turns", 3) or not is_wires(value[1], many):
        return False
    if turned_along(net, value[1], many) != other or len(value[1]) != far(many, net)[other]:
        return False
    return leads_to_net(many, group_of(many, net_words(many, net)), value[2], other)


def right_fewest_ties(many, net, value):
    if not is_tuple(value, 3) or not is_wires(value[1], many) or not is_net(value[2], many):
        return False
    if not same(value[0], min(len(other) for other in far(many, net))) or len(value[2]) != value[0]:
        return False
    return turned_along(net, value[1], many) == value[2] and len(value[1]) == far(many, net)[value[2]]


def word_at(many, wire, heard):
    return heard[0] + "I" * wire + heard[1] + "I" * (many - 1 - wire)


def group_told(those, word):
    """The group behind a look at this word: of those that pass it, and of it; None if it can never be told."""
    n = len(word) - 1
    if contrary(word) in those:
        return None
    stay = [its for its in those if not words_cross(its, word)]
    return frozenset(stay) | frozenset("+-"[times([its, word], n)[0] // 2] + times([its, word], n)[1] for its in stay)


def right_looked_net(many, net, wire, heard, value):
    those = group_told(group_of(many, net_words(many, net)), word_at(many, wire, heard))
    if not is_tuple(value, 2) or not is_net(value[0], many) or any(wire in tie for tie in value[0]):
        return False
    return leads_to_net(many, those, value[1], value[0])


def local_turns(n):
    """All ways in which gates of single wires turn letters: for each wire where X, Y, Z go."""
    return product(permutations("XYZ"), repeat=n)


def turned_letters(letters, turns):
    return "".join("I" if letter == "I" else turn["XYZ".index(letter)] for letter, turn in zip(letters, turns))


def is_one_but_for_turns(many, net, other):
    """Whether single gates lead the letters of the one net's words to the group of the other one's."""
    goal = {word[1:] for word in group_of(many, net_words(many, other))}
    mine = [word[1:] for word in net_words(many, net)]
    return any(all(turned_letters(letters, turns) in goal for letters in mine) for turns in local_turns(many))


# Section 22

def frees(guard, word, wire, others):
    return is_in(word, group(guard)) and word[1 + wire] == "Z" and all(word[1 + other] == "I" for other in others)


def can_be_last(guard, lot, wire):
    return any(frees(guard, word, wire, set(lot) - {wire}) for word in group(guard))


def bars(guard, lot, wire, letters):
    return is_in(letters, passing_guard(guard)) and on(letters, lot) and letters[wire] in "XY"


def right_last(guard, lot, wire, value):
    if tells(value, "word", 2):
        return frees(guard, value[1], wire, set(lot) - {wire})
    return tells(value, "barred", 2) and bars(guard, lot, wire, value[1])


def is_flow(guard, lot, wires, words):
    if not is_tuple(wires, len(lot)) or not all(is_int(wire) for wire in wires) or sorted(wires) != list(lot):
        return False
    if not is_tuple(words, len(lot)):
        return False
    return all(frees(guard, word, wire, wires[:at]) for at, (wire, word) in enumerate(zip(wires, words)))


def is_any_flow(guard, wires, words):
    return any(is_flow(guard, tuple(sorted(lot)), wires, words)
               for many in range(guard.wires + 1) for lot in combinations(range(guard.wires), many))


def has_flow(guard, lot):
    """By all sequences."""
    return any(all(any(frees(guard, word, wire, wires[:at]) for word in group(guard)) for at, wire in enumerate(wires))
               for wires in permutations(lot))


def right_stuck(guard, lot, value):
    if not tells(value, "stuck", 3) or not is_numbers(value[1], guard.wires) or not value[1]:
        return False
    if not set(value[1]) <= set(lot) or not is_tuple(value[2], len(value[1])):
        return False
    return all(bars(guard, value[1], wire, letters) for wire, letters in zip(*value[1:]))


def right_flow(guard, lot, value):
    if tells(value, "flow", 3):
        return is_flow(guard, lot, value[1], value[2])
    return right_stuck(guard, lot, value)


def all_layers(lot):
    """All sequences of lots, none of them (), that have each wire of the lot once."""
    if not lot:
        return [()]
    found = []
    for numbers in some_of(lot):
        if numbers:
            first = tuple(lot[k] for k in numbers)
            found += [(first,) + rest for rest in all_layers(tuple(wire for wire in lot if wire not in first))]
    return found


def wires_ahead(lots, at, wire):
    return {other for lot in lots[:at + 1] for other in lot} - {wire}


def goes_in_layers(guard, lots):
    return all(any(frees(guard, word, wire, wires_ahead(lots, at, wire)) for word in group(guard))
               for at, lot in enumerate(lots) for wire in lot)


def fewest_lots(guard, lot):
    """By all sequences of lots; None if there is none that goes."""
    return min([len(lots) for lots in all_layers(lot) if goes_in_layers(guard, lots)], default=None)


def right_fewest_layers(guard, lot, value):
    if not tells(value, "layers", 3):
        return right_stuck(guard, lot, value)
    if not is_tuple(value[1]) or not is_tuple(value[2], len(value[1])) or not all(map(is_tuple, value[1])):
        return False
    if not all(is_numbers(some, guard.wires) and some for some in value[1]):
        return False
    if sorted(wire for some in value[1] for wire in some) != list(lot) or len(value[1]) != fewest_lots(guard, lot):
        return False
    for at, (some, words) in enumerate(zip(value[1], value[2])):
        if not is_tuple(words, len(some)):
            return False
        if not all(frees(guard, word, wire, wires_ahead(value[1], at, wire)) for wire, word in zip(some, words)):
            return False
    return True


def owed(n, wires, words, heard):
    stands, turns = ["I"] * n, ""
    for at, wire in enumerate(wires):
        turns += "-" if stands[wire] in ("X", "Y") else "+"
        is_minus = heard[at] == "-"
        if stands[wire] in ("Z", "Y"):
            is_minus = not is_minus
        if is_minus:
            for other in range(n):
                if other != wire:
                    stands[other] = by_letters([stands[other], words[at][1 + other]], 1)
    return turns, "".join("I" if wire in wires else letter for wire, letter in enumerate(stands))


# Section 23

def is_name(value):
    return type(value) is str and 1 <= len(value) <= 8 and all("a" <= sign <= "z" for sign in value)


def is_row(value, n):
    if not is_tuple(value) or len(value) > 12:
        return False
    if not all(is_tuple(turn, 2) and is_name(turn[0]) and is_word(turn[1], n) for turn in value):
        return False
    return len({name for name, _ in value}) == len(value)


def first_out(guard, row):
    for number, (_, word) in enumerate(row):
        if kind_name(guard, word) == "seen":
            return number
    return None


def working(guard, row):
    return tuple(number for number, (_, word) in enumerate(row) if is_kept(guard, word))


def is_names(value):
    return is_tuple(value) and all(is_name(name) for name in value) and list(value) == sorted(set(value))


def quarter_turned(row, some, word):
    n = len(word) - 1
    for name, turn in row:
        if name in some and words_cross(turn, word):
            quarters, letters = times([turn, word], n)
            word = {0: "+", 2: "-"}[(quarters + 1) % 4] + letters
    return word


def do_the_same(guard, row, other):
    mine = [row[k] for k in working(guard, row)]
    its = [other[k] for k in working(guard, other)]
    if {name for name, _ in mine} != {name for name, _ in its}:
        return False
    words = dict(its)
    if not all(likeness(guard, word, words[name]) == "alike" for name, word in mine):
        return False
    places = [name for name, _ in its]
    return all(not words_cross(mine[a][1], mine[b][1]) or places.index(mine[a][0]) < places.index(mine[b][0])
               for a, b in combinations(range(len(mine)), 2))


def are_apart(guard, row, other, some, word):
    return likeness(guard, quarter_turned(row, some, word), quarter_turned(other, some, word)) != "alike"


def right_same_row(guard, row, other, value):
    if tells(value, "apart", 3):
        if not is_names(value[1]) or not value[1] or not is_kept(guard, value[2]):
            return False
        return are_apart(guard, row, other, value[1], value[2])
    if not tells(value, "same", 2) or not is_tuple(value[1]) or not do_the_same(guard, row, other):
        return False
    turns = [row[k] for k in working(guard, row)]
    for place in value[1]:
        if not is_int(place) or not 0 <= place < len(turns) - 1 or words_cross(turns[place][1], turns[place + 1][1]):
            return False
        turns[place], turns[place + 1] = turns[place + 1], turns[place]
    return [name for name, _ in turns] == [other[k][0] for k in working(guard, other)]


def depth_lots(guard, row):
    lots = []
    for number in working(guard, row):
        crossed = [at for at, lot in enumerate(lots) for ahead in lot if words_cross(row[ahead][1], row[number][1])]
        at = max(crossed) + 1 if crossed else 0
        if at == len(lots):
            lots.append([])
        lots[at].append(number)
    return tuple(tuple(lot) for lot in lots)


def right_depth(guard, row, value):
    lots = depth_lots(guard, row)
    if not is_tuple(value, 2) or not same(value[0], lots) or not is_numbers(value[1], len(row)):
        return False
    if len(value[1]) != len(lots) or not set(value[1]) <= set(working(guard, row)):
        return False
    return all(words_cross(row[one][1], row[other][1]) for one, other in zip(value[1], value[1][1:]))


# Section 24

TURNS = ("XYZ", "XZY", "YXZ", "YZX", "ZXY", "ZYX")


def is_turns(value, n):
    return is_tuple(value, n) and all(is_in(turn, TURNS) for turn in value)


def keep(guard, turns):
    """Whether these turns keep the guard."""
    return {turned_letters(letters, turns) for letters in group_letters(guard)} == group_letters(guard)


def right_keeps(guard, turns, value):
    came = [turned_letters(word[1:], turns) for word in guard.words]
    if tells(value, "keeps", 2):
        if not is_tuple(value[1], len(came)) or not all(is_numbers(row, len(came)) for row in value[1]):
            return False
        return all(by_letters([guard.words[k][1:] for k in row], guard.wires) == letters
                   for row, letters in zip(value[1], came))
    if not tells(value, "out", 3) or not is_int(value[1]) or not 0 <= value[1] < len(came):
        return False
    return is_in(value[2], passing_guard(guard)) and cross(value[2], came[value[1]])


@lru_cache(None)
def all_keeping(guard_text):
    """All turns that keep this guard, by going through all there are."""
    from guardedwires.guards import Guard
    guard = Guard(guard_text)
    those, parts = group_letters(guard), [word[1:] for word in guard.words]
    return frozenset(turns for turns in product(TURNS, repeat=guard.wires)
                     if all(turned_letters(letters, turns) in those for letters in parts))


def right_kept_turns(guard, value):
    those = all_keeping(guard.text)
    if not is_tuple(value, 2) or not same(value[0], len(those)) or not is_tuple(value[1], guard.wires):
        return False
    for wire, row in enumerate(value[1]):
        able = [turns for turns in those if turns[:wire] == ("XYZ",) * wire]
        if not is_tuple(row) or not all(is_turns(turns, guard.wires) and turns in able for turns in row):
            return False
        if [turns[wire] for turns in row] != sorted({turns[wire] for turns in able}):
            return False
    return True


def frame_words(pairs):
    return [word for pair in pairs for word in pair]


@lru_cache(None)
def numbers_of(guard_text, pairs):
    """For all letters that pass the guard the numbers of the frame's words whose product they are, beside it."""
    from guardedwires.guards import Guard
    guard, words = Guard(guard_text), frame_words(pairs)
    return {by_letters([words[k][1:] for k in numbers] + [letters], guard.wires): numbers
            for numbers in some_of(words) for letters in group_letters(guard)}


def done_by(guard, pairs, turns):
    """By all numbers of words of the frame."""
    numbers = numbers_of(guard.text, pairs)
    return tuple(numbers[turned_letters(word[1:], turns)] for word in frame_words(pairs))


def wished(guard, pairs, wish):
    words = frame_words(pairs)
    return [by_letters([words[k][1:] for k in numbers], guard.wires) for numbers in wish]


def is_work_wish(guard, pairs, value):
    many = 2 * len(pairs)
    if not is_tuple(value, many) or not all(is_numbers(numbers, many) for numbers in value):
        return False
    words, made = frame_words(pairs), wished(guard, pairs, value)
    return all(cross(made[a], made[b]) == words_cross(words[a], words[b]) for a, b in combinations(range(many), 2))


def can_be_done(guard, pairs, wish):
    return any(done_by(guard, pairs, turns) == wish for turns in all_keeping(guard.text))


def right_cases(guard, pairs, wish, turns, value):
    n = guard.wires
    if tells(value, "wires", 2):
        if len(turns) == n or not is_tuple(value[1], 6):
            return False
        return all(right_cases(guard, pairs, wish, turns + (turn,), part) for turn, part in zip(TURNS, value[1]))
    if not tells(value, "out", 3) or not is_in(value[2], passing_guard(guard)):
        return False
    if not on(value[2], range(len(turns))) or not is_int(value[1]):
        return False
    any_turns = turns + ("XYZ",) * (n - len(turns))
    many = len(guard.words)
    if 0 <= value[1] < many:
        return cross(value[2], turned_letters(guard.words[value[1]][1:], any_turns))
    if not many <= value[1] < many + 2 * len(pairs):
        return False
    number = value[1] - many
    came = turned_letters(frame_words(pairs)[number][1:], any_turns)
    return cross(value[2], came) != cross(value[2], wished(guard, pairs, wish)[number])


def right_work(guard, pairs, wish, value):
    if tells(value, "turns", 2):
        return is_turns(value[1], guard.wires) and keep(guard, value[1]) and done_by(guard, pairs, value[1]) == wish
    return tells(value, "none", 2) and right_cases(guard, pairs, wish, (), value[1])


# Section 25

def is_offer(guard, value):
    if not is_tuple(value, 3) or not is_int(value[2]) or not 1 <= value[2] <= 99:
        return False
    if same(value[0], "gate"):
        return is_gates((value[1],), guard.wires)
    if same(value[0], "leave"):
        return is_int(value[1]) and 0 <= value[1] < len(guard.words)
    return same(value[0], "look") and is_word(value[1], guard.wires)


def is_offers(guard, value):
    if not is_tuple(value) or not 1 <= len(value) <= 4 or not all(is_offer(guard, offer) for offer in value):
        return False
    return list(value) == sorted(set(value)) and len({offer[:2] for offer in value}) == len(value)


def group_by(guard, choice):
    """The group by a choice, as a set of words; None if the choice does not count."""
    words = [led(word, [offer[1] for offer in choice if offer[0] == "gate"]) for word in guard.words]
    left = [offer[1] for offer in choice if offer[0] == "leave"]
    those = group_of(guard.wires, tuple(word for number, word in enumerate(words) if number not in left))
    for offer in choice:
        if offer[0] == "look" and offer[1] not in those:
            those = group_told(those, offer[1])
            if those is None:
                return None
    return those


def choices(guard, offers):
    some = [tuple(offers[k] for k in numbers) for numbers in some_of(offers)]
    those = [choice for choice in some if group_by(guard, choice) is not None]
    return tuple(sorted(those, key=lambda choice: (sum(offer[2] for offer in choice), len(choice), choice)))


def is_wish(guard, value):
    n = guard.wires
    if not is_tuple(value, 2):
        return False
    kinds = {"lost": lambda told: is_numbers(told, n) and told != (), "all": lambda told: is_numbers(told, n),
             "nothing": lambda told: is_numbers(told, n), "flow": lambda told: is_numbers(told, n),
             "kept": lambda told: is_word(told, n), "told": lambda told: is_word(told, n),
             "mended": lambda told: is_int(told) and 1 <= told <= 3,
             "keeps": lambda told: is_int(told) and 0 <= told <= 6}
    return type(value[0]) is str and value[0] in kinds and kinds[value[0]](value[1])


def all_mended(guard, many):
    """Whether no two faults of at most so many letters have the same signs and a product off the group."""
    faults = sorted(letters for letters in all_letters(guard.wires) if weight(letters) <= many)
    by_signs = {}
    for letters in faults:
        first = by_signs.setdefault(signs(guard, letters), letters)
        if by_letters([first, letters], guard.wires) not in group_letters(guard):
            return False
    return True


def comes_true(guard, wish):
    name, told = wish
    if name in ("lost", "nothing"):
        return may_be_lost(guard, told)
    if name == "all":
        return may_be_lost(guard, rest_of(told, guard.wires))
    if name == "mended":
        return all_mended(guard, told)
    if name == "kept":
        return told[1:] in kept_letters(guard)
    if name == "told":
        return told in group(guard)
    if name == "keeps":
        return guard.wires - len(guard.words) >= told
    return has_flow(guard, told)


class Those:
    """A guard that is told by the words of its group."""

    def __init__(self, wires, those):
        from tests.oracle import is_independent
        words = []
        for word in sorted(those):
            if word[1:].strip("I") and is_independent([its[1:] for its in words] + [word[1:]], wires):
                words.append(word)
        self.wires, self.words = wires, tuple(words)
        assert group(self) == those


def right_cheapest(guard, offers, wishes, value):
    ahead = []
    for choice in choices(guard, offers):
        came = Those(guard.wires, group_by(guard, choice))
        wrong = [number for number, wish in enumerate(wishes) if not comes_true(came, wish)]
        if not wrong:
            price = sum(offer[2] for offer in choice)
            if not tells(value, "choice", 4) or not same(value[1:3], (price, choice)):
                return False
            return right_reasons(ahead, value[3])
        ahead.append((choice, wrong))
    return tells(value, "none", 2) and right_reasons(ahead, value[1])


def right_reasons(ahead, value):
    if not is_tuple(value, len(ahead)) or not all(is_tuple(reason, 2) for reason in value):
        return False
    return all(same(reason[0], choice) and is_int(reason[1]) and reason[1] in wrong
               for reason, (choice, wrong) in zip(value, ahead))
