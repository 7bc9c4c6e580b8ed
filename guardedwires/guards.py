"""Guards: words that pass one another, and the group that they make."""

from guardedwires.errors import BadGuard, BadOther, BadWires, Crosses, Made, NoWord, OtherWires, Wide
from guardedwires.groups import all_of_group, kind_of, numbers_crossing, numbers_making, rows_of_words, word_made
from guardedwires.leading import all_led
from guardedwires.needs import need_gates, need_word
from guardedwires.rows import full_steps, numbers_in
from guardedwires.values import MOST_WIRES, is_all_wires, is_exactly, is_from_to, is_told, is_word

WIRES_LINES = ("wires 1", "wires 2", "wires 3", "wires 4", "wires 5", "wires 6")
GUARD = "guard "


def can_follow(words, line, wires):
    """Whether this line can stand behind those of these words."""
    if not line.startswith(GUARD):
        return False
    word = line[len(GUARD):]
    return is_word(word, wires) and kind_of(words, word) == "kept"


def words_told(text):
    """The words of a guard's text; BadGuard with the number of the first line that cannot stand there."""
    if not isinstance(text, str):
        raise BadGuard(0)
    lines = text.split("\n")
    if lines[0] not in WIRES_LINES:
        raise BadGuard(1)
    wires = WIRES_LINES.index(lines[0]) + 1
    words = []
    for number, line in enumerate(lines[1:], start=2):
        if not can_follow(words, line, wires):
            raise BadGuard(number)
        words.append(line[len(GUARD):])
    return tuple(words)


class Guard:
    """A guard: `text`, `wires`, `words` and `kept` are as its text tells them."""

    def __init__(self, text):
        self.words = words_told(text)
        self.text = text
        self.wires = WIRES_LINES.index(text.split("\n")[0]) + 1
        self.kept = self.wires - len(self.words)

    def __len__(self):
        return len(self.words)

    def __eq__(self, other):
        return isinstance(other, Guard) and self.text == other.text

    def __contains__(self, x):
        return is_word(x, self.wires) and kind_of(self.words, x) == "guard"

    def with_word(self, word):
        """The Guard with this word behind the others."""
        need_word(word, self.wires)
        crossed = numbers_crossing(self.words, word[1:])
        if len(crossed) > 0:
            raise Crosses(crossed)
        numbers = numbers_making(self.words, word[1:])
        if numbers is not None:
            raise Made(numbers)
        return guard_of(self.wires, list(self.words) + [word])

    def without(self, number):
        """The Guard without the word with this number."""
        if not is_from_to(number, 0, len(self.words) - 1):
            raise NoWord(number)
        return guard_of(self.wires, self.words[:number] + self.words[number + 1:])


def guard_of(wires, words):
    """The Guard of so many wires with these words."""
    return Guard("\n".join([WIRES_LINES[wires - 1]] + [GUARD + word for word in words]))


def need_same_wires(guard, other):
    """OtherWires unless other is a Guard of as many wires."""
    if not isinstance(other, Guard) or other.wires != guard.wires:
        raise OtherWires(other)


def group(guard):
    """The ascending tuple of all words of the guard's group."""
    return tuple(sorted(all_of_group(guard.words, guard.wires)))


def word_apart(guard, other):
    """A word of guard whose letters no word of other's group has; None if there is none."""
    for word in guard.words:
        if numbers_making(other.words, word[1:]) is None:
            return word
    return None


def same_group(guard, other):
    """("same",), ("signs", word) or ("other", word): whether their groups are the same."""
    need_same_wires(guard, other)
    for one, its in ((guard, other), (other, guard)):
        word = word_apart(one, its)
        if word is not None:
            return ("other", word)
    for word in other.words:
        if kind_of(guard.words, word) == "contrary":
            return ("signs", word)
    return ("same",)


def is_apart(guard, other, word):
    """Whether it is a word of the one group, and the other one has none with its letters."""
    return kind_of(guard.words, word) == "guard" and numbers_making(other.words, word[1:]) is None


def shows_same_group(guard, other, value):
    """Whether this is such a result as is told for same_group."""
    told = same_group(guard, other)
    if is_exactly(value, ("same",)):
        return told == ("same",)
    if is_told(value, "signs", 2) and is_word(value[1], guard.wires):
        return told[0] == "signs" and value[1] in other and kind_of(guard.words, value[1]) == "contrary"
    if is_told(value, "other", 2) and is_word(value[1], guard.wires):
        return is_apart(guard, other, value[1]) or is_apart(other, guard, value[1])
    return False


def in_steps(guard):
    """The Guard of the same group whose words stand in steps."""
    many = len(guard.words)
    # Behind its marks each row carries a bit for each of the words that it is made of.
    rows = [(row << many) | (1 << number) for number, row in enumerate(rows_of_words(guard.words))]
    masks = [row & ((1 << many) - 1) for row in full_steps(rows)]
    return guard_of(guard.wires, [word_made(guard.words, numbers_in(mask), guard.wires) for mask in masks])


def led_guard(guard, gates):
    """The Guard with each word led by these gates."""
    need_gates(gates, guard.wires)
    return guard_of(guard.wires, all_led(guard.words, gates))


def exchanged(guard, wires):
    """The Guard in whose words at wire k stands the letter that stood at wires[k]."""
    if not is_all_wires(wires, guard.wires):
        raise BadWires(wires)
    words = [word[0] + "".join([word[1 + wire] for wire in wires]) for word in guard.words]
    return guard_of(guard.wires, words)


def side_by_side(guard, other):
    """The Guard with the wires and words of guard, and behind them those of other."""
    if not isinstance(other, Guard):
        raise BadOther(other)
    wires = guard.wires + other.wires
    if wires > MOST_WIRES:
        raise Wide(MOST_WIRES)
    mine = [word + "I" * other.wires for word in guard.words]
    its = [word[0] + "I" * guard.wires + word[1:] for word in other.words]
    return guard_of(wires, mine + its)
