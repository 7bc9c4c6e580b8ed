"""Where gates lead words."""

from guardedwires.letters import turned_sign

# The gate's name and the letters at its wires: the sign that is multiplied to the word, and the letters there.
GOES = {
    "h I": "+I", "h X": "+Z", "h Y": "-Y", "h Z": "+X",
    "s I": "+I", "s X": "+Y", "s Y": "-X", "s Z": "+Z",
    "x I": "+I", "x X": "+X", "x Y": "-Y", "x Z": "-Z",
    "z I": "+I", "z X": "-X", "z Y": "-Y", "z Z": "+Z",
    "cx II": "+II", "cx IX": "+IX", "cx IY": "+ZY", "cx IZ": "+ZZ",
    "cx XI": "+XX", "cx XX": "+XI", "cx XY": "+YZ", "cx XZ": "-YY",
    "cx YI": "+YX", "cx YX": "+YI", "cx YY": "-XZ", "cx YZ": "+XY",
    "cx ZI": "+ZI", "cx ZX": "+ZX", "cx ZY": "+IY", "cx ZZ": "+IZ",
    "cz II": "+II", "cz IX": "+ZX", "cz IY": "+ZY", "cz IZ": "+IZ",
    "cz XI": "+XZ", "cz XX": "+YY", "cz XY": "-YX", "cz XZ": "+XI",
    "cz YI": "+YZ", "cz YX": "-XY", "cz YY": "+XX", "cz YZ": "+YI",
    "cz ZI": "+ZI", "cz ZX": "+IX", "cz ZY": "+IY", "cz ZZ": "+ZZ",
    "swap II": "+II", "swap IX": "+XI", "swap IY": "+YI", "swap IZ": "+ZI",
    "swap XI": "+IX", "swap XX": "+XX", "swap XY": "+YX", "swap XZ": "+ZX",
    "swap YI": "+IY", "swap YX": "+XY", "swap YY": "+YY", "swap YZ": "+ZY",
    "swap ZI": "+IZ", "swap ZX": "+XZ", "swap ZY": "+YZ", "swap ZZ": "+ZZ",
}


def places_of(gate):
    """The numbers of wires of this gate."""
    return [int(number) for number in gate.split(" ")[1:]]


def led_by_gate(word, gate):
    """The word to which this gate leads it."""
    places = places_of(gate)
    name = gate.split(" ")[0]
    signs = list(word)
    goes = GOES[name + " " + "".join([signs[place + 1] for place in places])]
    for place, letter in zip(places, goes[1:]):
        signs[place + 1] = letter
    came = "".join(signs)
    return turned_sign(came) if goes[0] == "-" else came


def led_by(word, gates):
    """The word to which these gates lead it, one behind the other."""
    came = word
    for gate in gates:
        came = led_by_gate(came, gate)
    return came


def all_led(words, gates):
    """The words to which these gates lead these words."""
    return [led_by(word, gates) for word in words]


def back_gates(gates):
    """Gates that lead each word back to the one that these gates lead to it."""
    back = []
    for gate in reversed(gates):
        back.append(gate)
        # Only s is not its own contrary: s twice is z, so z has to follow.
        if gate[:2] == "s ":
            back.append("z" + gate[1:])
    return back


def plain_words(wires):
    """X, then Z, at each wire, wire 0 first."""
    plain = []
    for wire in range(wires):
        for letter in ("X", "Z"):
            plain.append("+" + "I" * wire + letter + "I" * (wires - 1 - wire))
    return plain


def table_of(wires, gates):
    """The table of these gates."""
    came = all_led(plain_words(wires), gates)
    return tuple([(came[2 * wire], came[2 * wire + 1]) for wire in range(wires)])
