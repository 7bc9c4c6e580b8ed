"""Gates that lead given words to given ones."""

from guardedwires.leading import all_led, back_gates
from guardedwires.letters import wires_touched
from guardedwires.rows import letters_of, row_crossing, rows_of

TO_X = {"X": (), "Y": ("s",), "Z": ("h",)}
TO_Z = {"X": ("h",), "Y": ("s", "h"), "Z": ()}
# Here X has to stay as it is, so Y is not led to Z as above.
TO_Z_BESIDE_X = {"Y": ("h", "s", "h"), "Z": ()}


def gates_at(names, wire):
    """The gates with these names at this wire."""
    return [f"{name} {wire}" for name in names]


def gates_to_x(letters, wire):
    """Gates that lead these letters to X at this wire alone; they touch no wires but its own and this one."""
    touched = wires_touched(letters)
    gates = []
    for place in touched:
        gates = gates + gates_at(TO_X[letters[place]], place)
    first = touched[0]
    gates = gates + [f"cx {first} {place}" for place in touched[1:]]
    if first != wire:
        gates.append(f"swap {wire} {first}")
    return gates


def gates_to_z(letters, wire):
    """Gates that lead letters with Y or Z at this wire to Z there alone, and X there to itself."""
    gates = gates_at(TO_Z_BESIDE_X[letters[wire]], wire)
    others = [place for place in wires_touched(letters) if place != wire]
    for place in others:
        gates = gates + gates_at(TO_Z[letters[place]], place)
    return gates + [f"cx {place} {wire}" for place in others]


def gates_to_plain(words):
    """Gates that lead these words, the first pairs of a table, to X and Z at wire after wire, signs aside."""
    gates = []
    came = words
    for wire in range(len(words) // 2):
        # What is done already has X and Z at wires ahead, so these words have I there.
        more = gates_to_x(came[2 * wire][1:], wire)
        came = all_led(came, more)
        gates = gates + more
        more = gates_to_z(came[2 * wire + 1][1:], wire)
        came = all_led(came, more)
        gates = gates + more
    return gates


def sign_gates(words, others, wires):
    """Gates x and z that lead words to others, which are independent, and like them but for signs."""
    unlike = [int(word != other) for word, other in zip(words, others)]
    letters = letters_of(row_crossing(rows_of([word[1:] for word in words]), unlike, wires), wires)
    gates = [f"x {wire}" for wire, letter in enumerate(letters) if letter in "XY"]
    return gates + [f"z {wire}" for wire, letter in enumerate(letters) if letter in "YZ"]


def with_mates(lone, pairs, wires):
    """Words with +, those of the first pairs of a table: the pairs, then each lone one with a mate."""
    table = [row for pair in pairs for row in pair]
    for number, row in enumerate(lone):
        bound = table + lone[number:]
        mate = row_crossing(bound, [int(other == row) for other in bound], wires)
        table = table + [row, mate]
    return ["+" + letters_of(row, wires) for row in table]


def gates_between(mine, its, wires):
    """Gates that lead the (lone, pairs) of rows of mine to those of its, which has as many, signs aside."""
    there = gates_to_plain(with_mates(mine[0], mine[1], wires))
    return there + back_gates(gates_to_plain(with_mates(its[0], its[1], wires)))
