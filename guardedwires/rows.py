"""Letters as rows of marks: integers, added by exclusive or.

The first mark is the highest bit: for each wire whether its letter is X or Y,
then for each wire whether it is Z or Y. So letters are multiplied by adding
their rows. A mask is an integer, too: its bit k tells whether number k is meant.
"""

LETTERS = "IZXY"


def row_of(letters):
    """The row of these letters."""
    row = 0
    for letter in letters:
        row = row * 2 + int(letter in "XY")
    for letter in letters:
        row = row * 2 + int(letter in "YZ")
    return row


def rows_of(parts):
    """The rows of these letters."""
    return [row_of(letters) for letters in parts]


def letters_of(row, wires):
    """The letters of this row."""
    letters = ""
    for wire in range(wires):
        place = wires - 1 - wire
        x_mark = (row >> (wires + place)) & 1
        z_mark = (row >> place) & 1
        letters = letters + LETTERS[x_mark * 2 + z_mark]
    return letters


def marks_on(lot, wires):
    """The row of all marks at the wires of this lot."""
    return row_of("".join(["Y" if wire in lot else "I" for wire in range(wires)]))


def numbers_in(mask):
    """The ascending tuple of the numbers that this mask means."""
    return tuple([number for number in range(mask.bit_length()) if (mask >> number) & 1 == 1])


def mask_of(numbers):
    """The mask that means these numbers."""
    return sum([1 << number for number in numbers])


def is_odd(number):
    """Whether an odd number of bits is set."""
    return f"{number:b}".count("1") % 2 == 1


def halves_exchanged(row, wires):
    """The row with the marks of both sorts exchanged."""
    low = row & ((1 << wires) - 1)
    return (low << wires) | (row >> wires)


def rows_cross(one, other, wires):
    """Whether the letters of these rows cross one another."""
    return is_odd(halves_exchanged(one, wires) & other)


def sum_in(rows, mask):
    """The sum of the rows whose numbers the mask means."""
    total = 0
    for number in numbers_in(mask):
        total = total ^ rows[number]
    return total


def without_steps(steps, row):
    """(rest, mask): what is left of the row by these steps, and of which rows the steps taken off are the sum."""
    rest = row
    mask = 0
    for step, numbers in steps:
        # The lesser one has the first mark of the step not set.
        if rest ^ step < rest:
            rest = rest ^ step
            mask = mask ^ numbers
    return rest, mask


def steps_and_masks(rows):
    """(steps, idle): steps are pairs (row, mask), no first mark of one being set in those behind it.

    They span what the rows span. The masks of idle are a base of all those whose rows add up to nothing.
    """
    steps = []
    idle = []
    for number, row in enumerate(rows):
        rest, mask = without_steps(steps, row)
        mask = mask ^ (1 << number)
        if rest == 0:
            idle.append(mask)
        else:
            steps.append((rest, mask))
    return steps, idle


def mask_making(rows, row):
    """A mask of rows whose sum is this row; None if there is none."""
    rest, mask = without_steps(steps_and_masks(rows)[0], row)
    return mask if rest == 0 else None


def masks_of_nothing(rows):
    """A base of all masks of rows that add up to nothing."""
    return steps_and_masks(rows)[1]


def beside(base, rows):
    """Those of rows, in sequence, that are no sum of some of base and of some ahead of them."""
    steps = list(steps_and_masks(base)[0])
    picked = []
    for row in rows:
        rest = without_steps(steps, row)[0]
        if rest != 0:
            # Nobody asks of which rows these steps are made.
            steps.append((rest, 0))
            picked.append(row)
    return picked


def all_sums(rows):
    """All sums of some of these rows."""
    sums = [0]
    for row in rows:
        sums = sums + [row ^ other for other in sums]
    return sums


def full_steps(rows):
    """The rows that span the same, in steps: the first mark of each is farther behind, and set in no other one."""
    steps = []
    for row in rows:
        rest = row
        for step in steps:
            rest = min(rest, rest ^ step)
        if rest != 0:
            steps = [min(one, one ^ rest) for one in steps] + [rest]
    return sorted(steps, reverse=True)


def first_mark(row):
    """The row that has just the first mark of this one."""
    return 1 << (row.bit_length() - 1)


def row_crossing(rows, wanted, wires):
    """A row that crosses just those of rows where wanted is 1, not those where it is 0; there has to be one."""
    asked = [halves_exchanged(row, wires) * 2 + bit for row, bit in zip(rows, wanted)]
    return sum([first_mark(step) for step in full_steps(asked) if (step & 1) == 1]) >> 1


def rows_passing(rows, wires):
    """A base of all rows that pass these ones."""
    steps = full_steps([halves_exchanged(row, wires) for row in rows])
    bound = sum([first_mark(step) for step in steps])
    found = []
    for place in range(2 * wires):
        mark = 1 << place
        if (bound & mark) == 0:
            found.append(mark + sum([first_mark(step) for step in steps if (step & mark) != 0]))
    return found


def rows_on(rows, lot, wires):
    """A base of all sums of these independent rows that lie on the lot."""
    off = marks_on([wire for wire in range(wires) if wire not in lot], wires)
    return [sum_in(rows, mask) for mask in masks_of_nothing([row & off for row in rows])]


def made_passing(one, first, mate, wires):
    """This (row, mask) times those of first, of mate, so that it passes both."""
    row, mask = one
    if rows_cross(one[0], mate[0], wires):
        row = row ^ first[0]
        mask = mask ^ first[1]
    if rows_cross(one[0], first[0], wires):
        row = row ^ mate[0]
        mask = mask ^ mate[1]
    return row, mask


def parting_masks(rows, wires):
    """(lone, pairs): the masks of a parting of what these independent rows span."""
    rest = [(row, 1 << number) for number, row in enumerate(rows)]
    lone = []
    pairs = []
    while len(rest) > 0:
        first = rest[0]
        mate = None
        for one in rest:
            if mate is None and rows_cross(first[0], one[0], wires):
                mate = one
        if mate is None:
            lone.append(first[1])
            rest = rest[1:]
        else:
            pairs.append((first[1], mate[1]))
            rest = [made_passing(one, first, mate, wires) for one in rest if one != first and one != mate]
    return lone, pairs


def parting_rows(rows, wires):
    """(lone, pairs): the rows of a parting of what these rows span."""
    base = beside([], rows)
    lone, pairs = parting_masks(base, wires)
    return [sum_in(base, mask) for mask in lone], [(sum_in(base, one), sum_in(base, mate)) for one, mate in pairs]
