"""What DOC.md says of holders, sides and nets, by going through all words: slow, plain, and apart from the package.

Of a Guard only `wires` and `words` are read here.
"""

from itertools import combinations

from tests.oracle import cross, is_gates, is_int, is_numbers, is_tuple, led, misses, on, some_of, words_cross
from tests.oracle_guards import dimension, group, group_letters, group_of, is_beside, is_kept, likeness, may_be_lost


def rest_of(lot, n):
    return tuple(wire for wire in range(n) if wire not in lot)


# Section 18

def is_pairs(value):
    return is_tuple(value) and all(is_tuple(pair, 2) for pair in value)


def right_told_on(guard, lot, value):
    if not is_tuple(value, 3) or not all(is_pairs(part) for part in value):
        return False
    own, lone, far = value
    words = [word for part in value for pair in part for word in pair]
    if not all(is_kept(guard, word) for word in words):
        return False
    if not all(on(word[1:], lot) for pair in own for word in pair):
        return False
    if not all(misses(word[1:], lot) for pair in far for word in pair):
        return False
    for word, other in lone:
        if not on(word[1:], lot) or not misses(other[1:], lot) or likeness(guard, word, other) != "alike":
            return False
    if len(own) + len(lone) + len(far) != guard.wires - len(guard.words):
        return False
    mine = [word for pair in own + far for word in pair] + [word for word, _ in lone]
    if not is_beside(guard, [word[1:] for word in mine]):
        return False
    return all(words_cross(words[a], words[b]) == mates(own, lone, a, b) for a, b in combinations(range(len(words)), 2))


def mates(own, lone, a, b):
    """Whether the words with these numbers, of all parts in sequence, are of one pair of own or of far."""
    is_lone = 2 * len(own) <= a < 2 * (len(own) + len(lone))
    return a // 2 == b // 2 and not is_lone


def is_holders(value, n):
    if not is_tuple(value) or not 2 <= len(value) <= 4 or not all(is_numbers(lot, n) and lot for lot in value):
        return False
    return sorted(wire for lot in value for wire in lot) == list(range(n))


def wires_of(holders, some):
    return {wire for number in some for wire in holders[number]}


def tells_all(guard, holders, some):
    return may_be_lost(guard, set(range(guard.wires)) - wires_of(holders, some))


def can_tell(guard, holders, some):
    if tells_all(guard, holders, some):
        return "all"
    return "nothing" if may_be_lost(guard, wires_of(holders, some)) else "part"


def least_holders(guard, holders):
    able = [some for some in some_of(holders) if tells_all(guard, holders, some)]
    return tuple(some for some in able if not any(set(other) < set(some) for other in able))


def blind_holders(guard, holders):
    blind = [some for some in some_of(holders) if may_be_lost(guard, wires_of(holders, some))]
    return tuple(some for some in blind if not any(set(other) > set(some) for other in blind))


# Section 19

def is_side(value, n):
    return is_numbers(value, n) and 0 < len(value) < n


def part_on(letters, lot):
    return "".join(letter if wire in lot else "I" for wire, letter in enumerate(letters))


def shared(guard, side):
    letters = group_letters(guard)
    own = dimension([one for one in letters if on(one, side)])
    far = dimension([one for one in letters if misses(one, side)])
    parts = [part_on(word[1:], side) for word in guard.words]
    rows = [tuple(cross(one, other) for other in parts) for one in parts]
    sums = {tuple(sum(rows[k][at] for k in numbers) % 2 for at in range(len(rows))) for numbers in some_of(rows)}
    assert dimension(sums) % 2 == 0
    pairs = dimension(sums) // 2
    return pairs, len(guard.words) - own - far - 2 * pairs, own, far


def plain_words(n, side, told):
    """The words of the plain group."""
    pairs, signs, own, far = told
    here, there = list(side), list(rest_of(side, n))
    words = [plain(n, "Z", [here.pop(0)]) for _ in range(own)] + [plain(n, "Z", [there.pop(0)]) for _ in range(far)]
    words += [plain(n, "Z", [here.pop(0), there.pop(0)]) for _ in range(signs)]
    for _ in range(pairs):
        both = [here.pop(0), there.pop(0)]
        words += [plain(n, "X", both), plain(n, "Z", both)]
    return tuple(words)


def plain(n, letter, wires):
    return "+" + "".join(letter if wire in wires else "I" for wire in range(n))


def is_gates_on(value, lot, n):
    return is_gates(value, n) and all(int(number) in lot for gate in value for number in gate.split(" ")[1:])


def right_brought(guard, side, value):
    n = guard.wires
    if not is_tuple(value, 2) or not is_gates_on(value[0], side, n) or not is_gates_on(value[1], rest_of(side, n), n):
        return False
    came = {led(led(word, value[0]), value[1]) for word in group(guard)}
    return came == group_of(n, plain_words(n, side, shared(guard, side)))


# Section 20

def is_net(value, many):
    if not is_tuple(value) or not all(is_tuple(pair, 2) for pair in value):
        return False
    if not all(is_int(k) and 0 <= k < many for pair in value for k in pair):
        return False
    return all(one < other for one, other in value) and list(value) == sorted(set(value))


def is_many(value):
    return is_int(value) and 1 <= value <= 5


def tied(net, one, other):
    return (one, other) in net or (other, one) in net


def net_words(many, net):
    return tuple("+" + "".join("X" if at == wire else "Z" if tied(net, at, wire) else "I" for at in range(many))
                 for wire in range(many))


def is_single(value, n):
    return is_gates(value, n) and len(value) <= 60 and all(gate.split(" ")[0] in ("h", "s", "x", "z") for gate in value)


def right_as_net(guard, value):
    if not is_tuple(value, 2) or not is_net(value[0], guard.wires) or not is_single(value[1], guard.wires):
        return False
    came = {led(word, value[1]) for word in group(guard)}
    return came == group_of(guard.wires, net_words(guard.wires, value[0]))


def cut(many, net, lot):
    rows = [tuple(tied(net, wire, other) for other in rest_of(lot, many)) for wire in lot]
    width = many - len(lot)
    return dimension({tuple(sum(rows[k][at] for k in some) % 2 for at in range(width)) for some in some_of(rows)})


def all_nets(many):
    ties = list(combinations(range(many), 2))
    return [tuple(ties[k] for k in numbers) for numbers in some_of(ties)]
