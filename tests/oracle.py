"""What DOC.md says, by going through all letters and all products: slow, plain, and apart from the package.

Each function right_.. tells of any value whether it is a right result of the
function of this name, for arguments that are as they should be.
"""

from functools import lru_cache
from itertools import combinations, product

TABLE = """
I: I0 X0 Y0 Z0
X: X0 I0 Z1 Y3
Y: Y0 Z3 I0 X1
Z: Z0 Y1 X3 I0
"""
BY = {}
for _line in TABLE.split("\n")[1:-1]:
    for _other, _told in zip("IXYZ", _line[3:].split(" ")):
        BY[_line[0], _other] = (_told[0], int(_told[1]))


# Values

def is_int(value):
    return type(value) is int


def same(value, wanted):
    """Whether both are the same, of the same kinds throughout."""
    if type(value) is not type(wanted):
        return False
    if type(wanted) is tuple:
        return len(value) == len(wanted) and all(same(a, b) for a, b in zip(value, wanted))
    return value == wanted


def is_in(value, those):
    return type(value) is str and value in those


def is_tuple(value, many=None):
    return type(value) is tuple and (many is None or len(value) == many)


def tells(value, name, many):
    return is_tuple(value, many) and same(value[0], name)


@lru_cache(None)
def all_letters(n):
    return frozenset("".join(signs) for signs in product("IXYZ", repeat=n))


@lru_cache(None)
def all_words(n):
    return frozenset(sign + letters for sign in "+-" for letters in all_letters(n))


@lru_cache(None)
def all_lots(n):
    return tuple(lot for many in range(n + 1) for lot in combinations(range(n), many))


@lru_cache(None)
def all_gates(n):
    one = [f"{name} {a}" for name in ("h", "s", "x", "z") for a in range(n)]
    pairs = [(a, b) for a in range(n) for b in range(n) if a != b]
    return frozenset(one + [f"{name} {a} {b}" for name in ("cx", "cz", "swap") for a, b in pairs])


def is_letters(value, n):
    return is_in(value, all_letters(n))


def is_word(value, n):
    return is_in(value, all_words(n))


def is_numbers(value, many):
    return is_tuple(value) and all(is_int(k) and 0 <= k < many for k in value) and list(value) == sorted(set(value))


def is_gates(value, n):
    return is_tuple(value) and len(value) <= 400 and all(is_in(gate, all_gates(n)) for gate in value)


# Words

def cross(one, other):
    """Of letters."""
    return len([1 for a, b in zip(one, other) if a != "I" and b != "I" and a != b]) % 2 == 1


def words_cross(one, other):
    return cross(one[1:], other[1:])


def times(words, n):
    """(quarters, letters) of the product of these words, in sequence."""
    quarters, letters = 0, "I" * n
    for word in words:
        parts = [BY[a, b] for a, b in zip(letters, word[1:])]
        letters = "".join(part[0] for part in parts)
        quarters += sum(part[1] for part in parts) + (2 if word[0] == "-" else 0)
    return quarters % 4, letters


def word_of(words, n):
    quarters, letters = times(words, n)
    assert quarters in (0, 2)
    return "+-"[quarters // 2] + letters


def by_letters(parts, n):
    return times(["+" + letters for letters in parts], n)[1]


def contrary(word):
    return {"+": "-", "-": "+"}[word[0]] + word[1:]


def some_of(things):
    """All choices of some of these, as tuples of numbers."""
    return [numbers for many in range(len(things) + 1) for numbers in combinations(range(len(things)), many)]


def is_independent(parts, n):
    """Of letters."""
    return all(by_letters([parts[k] for k in numbers], n) != "I" * n for numbers in some_of(parts) if numbers)


def on(letters, lot):
    return all(letter == "I" or wire in lot for wire, letter in enumerate(letters))


def misses(letters, lot):
    return all(letters[wire] == "I" for wire in lot)


def weight(letters):
    return len(letters) - letters.count("I")


def right_independent(words, value):
    n = len(words[0]) - 1
    parts = [word[1:] for word in words]
    if same(value, ("independent",)):
        return is_independent(parts, n)
    if not tells(value, "product", 2) or not is_numbers(value[1], len(words)) or not value[1]:
        return False
    return by_letters([parts[k] for k in value[1]], n) == "I" * n


# Gates: where the document's table says that X and Z at a gate's wires go

GOES = {
    "h": {"X0": "Z0", "Z0": "X0"},
    "s": {"X0": "Y0", "Z0": "Z0"},
    "x": {"X0": "X0", "Z0": "-Z0"},
    "z": {"X0": "-X0", "Z0": "Z0"},
    "cx": {"X0": "X0X1", "Z1": "Z0Z1", "Z0": "Z0", "X1": "X1"},
    "cz": {"X0": "X0Z1", "X1": "Z0X1", "Z0": "Z0", "Z1": "Z1"},
    "swap": {"X0": "X1", "Z0": "Z1", "X1": "X0", "Z1": "Z0"},
}


def goes(gate, letter, wire, n):
    """Where the gate leads this letter, X or Z, at this wire."""
    name, *numbers = gate.split(" ")
    places = [int(number) for number in numbers]
    if wire not in places:
        return "+" + "I" * wire + letter + "I" * (n - 1 - wire)
    told = GOES[name][f"{letter}{places.index(wire)}"]
    sign, told = ("-", told[1:]) if told[0] == "-" else ("+", told)
    signs = ["I"] * n
    for k in range(0, len(told), 2):
        signs[places[int(told[k + 1])]] = told[k]
    return sign + "".join(signs)


@lru_cache(None)
def led_once(word, gate):
    n = len(word) - 1
    quarters = 2 if word[0] == "-" else 0
    parts = []
    for wire, letter in enumerate(word[1:]):
        quarters += 1 if letter == "Y" else 0
        parts += [goes(gate, "X", wire, n)] if letter in "XY" else []
        parts += [goes(gate, "Z", wire, n)] if letter in "YZ" else []
    more, letters = times(parts, n)
    assert (quarters + more) % 2 == 0
    return "+-"[(quarters + more) % 4 // 2] + letters


def led(word, gates):
    for gate in gates:
        word = led_once(word, gate)
    return word


def plain(n):
    return [("+" + "I" * k + "X" + "I" * (n - 1 - k), "+" + "I" * k + "Z" + "I" * (n - 1 - k)) for k in range(n)]


def table(n, gates):
    return tuple((led(x, gates), led(z, gates)) for x, z in plain(n))


def is_table(value):
    if not is_tuple(value) or not 1 <= len(value) <= 6 or not all(is_tuple(pair, 2) for pair in value):
        return False
    n = len(value)
    words = [word for pair in value for word in pair]
    if not all(is_word(word, n) for word in words):
        return False
    return all(words_cross(words[a], words[b]) == (a // 2 == b // 2) for a, b in combinations(range(2 * n), 2))


def right_same_gates(n, gates, other, value):
    if same(value, ("same",)):
        return table(n, gates) == table(n, other)
    return tells(value, "apart", 2) and is_word(value[1], n) and led(value[1], gates) != led(value[1], other)


def right_gates_of(rows, value):
    return is_gates(value, len(rows)) and table(len(rows), value) == rows


# Spans

@lru_cache(None)
def span(n, makers):
    return frozenset(by_letters([makers[k] for k in numbers], n) for numbers in some_of(makers))


def passing(n, makers):
    return frozenset(letters for letters in all_letters(n) if not any(cross(letters, maker) for maker in makers))


def lone(n, makers):
    those = span(n, makers)
    return frozenset(letters for letters in those if not any(cross(letters, other) for other in those))


def rank(n, makers):
    return len(span(n, makers)).bit_length() - 1


def sizes(n, makers):
    alone = len(lone(n, makers)).bit_length() - 1
    return alone, (rank(n, makers) - alone) // 2


def is_bar(n, makers, letters, value):
    return is_letters(value, n) and value in passing(n, makers) and cross(value, letters)


def right_made(n, makers, letters, value):
    if tells(value, "made", 2):
        return is_numbers(value[1], len(makers)) and by_letters([makers[k] for k in value[1]], n) == letters
    return tells(value, "bar", 2) and is_bar(n, makers, letters, value[1])


def right_within(n, makers, others, value):
    if same(value, ("within",)):
        return span(n, makers) <= span(n, others)
    if not tells(value, "apart", 3) or not is_int(value[1]) or not 0 <= value[1] < len(makers):
        return False
    return is_bar(n, others, makers[value[1]], value[2])


def right_parted(n, makers, value):
    if not is_tuple(value, 2) or not all(is_tuple(part) for part in value):
        return False
    if not all(is_tuple(pair, 2) for pair in value[1]):
        return False
    base = list(value[0]) + [letters for pair in value[1] for letters in pair]
    if not all(is_letters(letters, n) for letters in base) or len(base) > 12:
        return False
    if not is_independent(base, n) or span(n, tuple(base)) != span(n, makers):
        return False
    if not set(value[0]) <= lone(n, makers):
        return False
    for number, pair in enumerate(value[1]):
        others = list(value[0]) + [letters for k, its in enumerate(value[1]) if k != number for letters in its]
        if not cross(*pair) or any(cross(one, other) for one in pair for other in others):
            return False
    return True


def right_span_gates(n, makers, others, value):
    mine, its = sizes(n, makers), sizes(n, others)
    if tells(value, "sizes", 3):
        return mine != its and same(value, ("sizes", mine, its))
    if not tells(value, "gates", 2) or not is_gates(value[1], n):
        return False
    return {led("+" + letters, value[1])[1:] for letters in span(n, makers)} == span(n, others)


def right_word_gates(n, words, others, value):
    if tells(value, "gates", 2):
        return is_gates(value[1], n) and tuple(led(word, value[1]) for word in words) == others
    if not tells(value, "crossing", 3) or not all(is_int(k) and 0 <= k < len(words) for k in value[1:]):
        return False
    a, b = value[1:]
    return a < b and words_cross(words[a], words[b]) != words_cross(others[a], others[b])
