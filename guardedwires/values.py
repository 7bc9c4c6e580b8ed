"""Which values are what: each function here takes any value and tells a bool."""

MOST_WIRES = 6
MOST_GATES = 400
MOST_MAKERS = 12
MOST_LOOKS = 99
MOST_SINGLE_GATES = 60
MOST_NAME = 8
WIRES = ("0", "1", "2", "3", "4", "5")
GATES_OF_ONE_WIRE = ("h", "s", "x", "z")
GATES_OF_TWO_WIRES = ("cx", "cz", "swap")


def is_integer(value):
    """Whether it is an int that is not a bool."""
    return isinstance(value, int) and not isinstance(value, bool)


def is_from_to(value, least, most):
    """Whether it is an integer, neither below least nor above most."""
    return is_integer(value) and least <= value <= most


def is_tuple_of(value, many):
    """Whether it is a tuple of so many values."""
    return isinstance(value, tuple) and len(value) == many


def is_told(value, name, many):
    """Whether it is a tuple of so many values, the first of them this name."""
    return is_tuple_of(value, many) and isinstance(value[0], str) and value[0] == name


def is_exactly(value, wanted):
    """Whether it is this one, made of tuples, integers and strings, and of the same kinds at any depth."""
    if isinstance(wanted, tuple):
        if not is_tuple_of(value, len(wanted)):
            return False
        return all([is_exactly(part, other) for part, other in zip(value, wanted)])
    if isinstance(wanted, str):
        return isinstance(value, str) and value == wanted
    return is_integer(value) and value == wanted


def is_name(value):
    """Whether it is a string of one to eight letters a to z."""
    return isinstance(value, str) and 1 <= len(value) <= MOST_NAME and value.strip("abcdefghijklmnopqrstuvwxyz") == ""


def is_letters(value, wires):
    """Whether it is letters of so many wires."""
    return isinstance(value, str) and len(value) == wires and value.strip("IXYZ") == ""


def is_word(value, wires):
    """Whether it is a word of so many wires."""
    return isinstance(value, str) and value[:1] in ("+", "-") and is_letters(value[1:], wires)


def is_word_of_any(value):
    """Whether it is a word of one to six wires."""
    return isinstance(value, str) and 2 <= len(value) <= MOST_WIRES + 1 and is_word(value, len(value) - 1)


def is_words(value, least, most, wires):
    """Whether it is a tuple of least to most words of so many wires."""
    if not isinstance(value, tuple) or not least <= len(value) <= most:
        return False
    return all([is_word(word, wires) for word in value])


def is_numbers(value, many):
    """Whether it is an ascending tuple of integers from 0, all below many."""
    if not isinstance(value, tuple):
        return False
    least = 0
    for number in value:
        if not is_from_to(number, least, many - 1):
            return False
        least = number + 1
    return True


def is_lot(value, wires):
    """Whether it is a lot of so many wires."""
    return is_numbers(value, wires)


def is_all_wires(value, wires):
    """Whether it is a tuple of all numbers of so many wires, each once, in any sequence."""
    if not is_tuple_of(value, wires):
        return False
    if not all([is_from_to(wire, 0, wires - 1) for wire in value]):
        return False
    return all([wire in value for wire in range(wires)])


def is_gate(value, wires):
    """Whether it is a gate all of whose numbers are below this one."""
    if not isinstance(value, str):
        return False
    parts = value.split(" ")
    numbers = parts[1:]
    if not all([number in WIRES[:wires] for number in numbers]):
        return False
    if len(numbers) == 1:
        return parts[0] in GATES_OF_ONE_WIRE
    return len(numbers) == 2 and numbers[0] != numbers[1] and parts[0] in GATES_OF_TWO_WIRES


def is_gates(value, wires):
    """Whether it is gates of so many wires."""
    if not isinstance(value, tuple) or len(value) > MOST_GATES:
        return False
    return all([is_gate(gate, wires) for gate in value])


def is_single_gates(value, wires):
    """Whether it is none to sixty gates, all of one wire."""
    if not isinstance(value, tuple) or len(value) > MOST_SINGLE_GATES:
        return False
    return all([is_gate(gate, wires) and len(gate.split(" ")) == 2 for gate in value])


def is_looks(value, wires):
    """Whether it is none to 99 words of so many wires."""
    return is_words(value, 0, MOST_LOOKS, wires)


def is_ascending(value):
    """Whether each of these parts, all of one kind, is greater than the one ahead of it."""
    return all([one < other for one, other in zip(value, value[1:])])


def is_pairs(value):
    """Whether it is a tuple of tuples of two."""
    return isinstance(value, tuple) and all([is_tuple_of(pair, 2) for pair in value])


def is_net(value, wires):
    """Whether it is a net of so many wires."""
    return is_pairs(value) and all([is_numbers(pair, wires) for pair in value]) and is_ascending(value)


def is_makers(value, wires):
    """Whether it is makers of so many wires."""
    if not isinstance(value, tuple) or len(value) > MOST_MAKERS:
        return False
    return all([is_letters(letters, wires) for letters in value])
