"""How letters are multiplied, with quarters, and which of them cross."""

BY = {
    "II": ("I", 0), "IX": ("X", 0), "IY": ("Y", 0), "IZ": ("Z", 0),
    "XI": ("X", 0), "XX": ("I", 0), "XY": ("Z", 1), "XZ": ("Y", 3),
    "YI": ("Y", 0), "YX": ("Z", 3), "YY": ("I", 0), "YZ": ("X", 1),
    "ZI": ("Z", 0), "ZX": ("Y", 1), "ZY": ("X", 3), "ZZ": ("I", 0),
}


def letters_cross(one, other):
    """Whether these letters cross one another."""
    unlike = [mine != its and mine != "I" and its != "I" for mine, its in zip(one, other)]
    return sum(unlike) % 2 == 1


def words_cross(one, other):
    """Whether these words cross one another."""
    return letters_cross(one[1:], other[1:])


def cross_just_in_pairs(paired, lone):
    """Whether of all these letters just numbers 0 and 1 of paired cross one another, 2 and 3, and so on."""
    parts = list(paired) + list(lone)
    for one in range(len(parts)):
        for other in range(one):
            mates = one < len(paired) and one // 2 == other // 2
            if letters_cross(parts[one], parts[other]) != mates:
                return False
    return True


def quarters_of_sign(word):
    """Two for a word with -, none for one with +."""
    return 2 if word[0] == "-" else 0


def product_of_two(one, other):
    """(quarters, letters) of the product of two words."""
    parts = [BY[mine + its] for mine, its in zip(one[1:], other[1:])]
    quarters = quarters_of_sign(one) + quarters_of_sign(other) + sum([part[1] for part in parts])
    return quarters % 4, "".join([part[0] for part in parts])


def product_of(words, wires):
    """(quarters, letters) of the product of these words of so many wires, in sequence."""
    quarters = 0
    letters = "I" * wires
    for word in words:
        more, letters = product_of_two("+" + letters, word)
        quarters = quarters + more
    return quarters % 4, letters


def by_letters(one, other):
    """The letters that come of multiplying these letters, quarters aside."""
    return "".join([BY[mine + its][0] for mine, its in zip(one, other)])


def word_of(quarters, letters):
    """The word with these quarters, 0 or 2, and these letters."""
    return ("-" if quarters == 2 else "+") + letters


def product_passing(one, other):
    """The product of two words that pass one another, so it is never bent."""
    quarters, letters = product_of_two(one, other)
    return word_of(quarters, letters)


def turned_sign(word):
    """The word with the other sign."""
    return ("+" if word[0] == "-" else "-") + word[1:]


def wires_touched(letters):
    """The ascending tuple of the wires where these letters are not I."""
    return tuple([wire for wire, letter in enumerate(letters) if letter != "I"])


def lies_on(letters, lot):
    """Whether these letters are I on all wires that are not of the lot."""
    return all([wire in lot for wire in wires_touched(letters)])


def rest_of(lot, wires):
    """The lot of all other wires."""
    return tuple([wire for wire in range(wires) if wire not in lot])
