"""What a machine is behind its deeds, and what each sort of deed makes of it."""

from guardedwires.groups import group_words_on, kind_of
from guardedwires.guards import guard_of, side_by_side
from guardedwires.kinds import alike_beside, times_guard
from guardedwires.leading import all_led, led_by
from guardedwires.letters import letters_cross, rest_of, turned_sign, words_cross
from guardedwires.losing import numbers_off
from guardedwires.stepping import word_behind, words_behind


class State:
    """`base` is the Guard, `named` the marks, `heard` what was read, `gone` what was spoilt, as machines tell them."""

    def __init__(self, base, named, heard, gone):
        self.base = base
        self.named = named
        self.heard = heard
        self.gone = gone


class Step:
    """A state, the line of the deed that led to it, and the step ahead of it (None at the beginning)."""

    def __init__(self, state, line, ahead):
        self.state = state
        self.line = line
        self.ahead = ahead
        self.many = 0 if ahead is None else ahead.many + 1


class Undone:
    """A step that was taken back, and what was taken back ahead of it and not done again (None if nothing was)."""

    def __init__(self, step, rest):
        self.step = step
        self.rest = rest


def journal_of(first, step):
    """The journal of a machine that began with this Guard and stands at this step."""
    lines = []
    at = step
    while at.ahead is not None:
        lines.append(at.line)
        at = at.ahead
    return "\n".join([first.text, "machine"] + lines[::-1])


def names_in(state):
    """The names of all that are kept, read or spoilt."""
    return [name for name, _ in state.named] + [name for name, _ in state.heard] + list(state.gone)


def word_named(state, name):
    """The word of the mark that is kept with this name; None if there is none."""
    for its, word in state.named:
        if its == name:
            return word
    return None


def word_off(guard, word, lot):
    """A word that is alike with this kept one beside the guard, and has I on the lot; None if there is none."""
    numbers = numbers_off(guard, lot, word[1:])
    return None if numbers is None else times_guard(guard, word, numbers)


def with_words(state, words, named):
    """The state with these words of its guard, and these words of its marks, in the sequence of the marks."""
    marks = tuple([(mark[0], word) for mark, word in zip(state.named, named)])
    return State(guard_of(state.base.wires, words), marks, state.heard, state.gone)


def words_named(state):
    """The words of all marks."""
    return [word for _, word in state.named]


def marked(state, name, word):
    """The state with a mark more."""
    return State(state.base, tuple(sorted(list(state.named) + [(name, word)])), state.heard, state.gone)


def gated(state, gate):
    """The state behind this gate."""
    return with_words(state, all_led(state.base.words, (gate,)), [led_by(word, (gate,)) for word in words_named(state)])


def seen_behind(state, word):
    """The state behind a look at a seen word, or one of the group."""
    words = state.base.words
    named = [word_behind(words, its, word) for its in words_named(state)]
    return with_words(state, words_behind(words, word), named)


def kept_behind(state, word):
    """The state behind a look at a kept word."""
    going = []
    heard = []
    gone = []
    for name, its in state.named:
        told = alike_beside(state.base, its, word)[0]
        if words_cross(its, word):
            gone.append(name)
        elif told == "unlike":
            going.append((name, its))
        else:
            heard.append((name, "+" if told == "alike" else "-"))
    guard = guard_of(state.base.wires, list(state.base.words) + [word])
    return State(guard, tuple(going), tuple(sorted(list(state.heard) + heard)), tuple(sorted(list(state.gone) + gone)))


def looked_at(state, word):
    """The state behind a look at this word, whose contrary is none of the group."""
    if kind_of(state.base.words, word) == "kept":
        return kept_behind(state, word)
    # Nothing crosses a word of the group, so beside it nothing changes.
    return seen_behind(state, word)


def flipped_word(word, letters):
    """The word, with the other sign if it crosses these letters."""
    return turned_sign(word) if letters_cross(word[1:], letters) else word


def flipped(state, letters):
    """The state in which all words that cross these letters have the other sign."""
    words = [flipped_word(word, letters) for word in state.base.words]
    return with_words(state, words, [flipped_word(word, letters) for word in words_named(state)])


def new_wires(lot, wires):
    """For each wire of the lot the word with + and Z there."""
    return ["+" + "I" * wire + "Z" + "I" * (wires - 1 - wire) for wire in lot]


def without_wires(state, lot):
    """The state behind the loss of these wires, which come back as new ones."""
    wires = state.base.wires
    came = [(name, word_off(state.base, word, lot)) for name, word in state.named]
    gone = [name for name, word in came if word is None]
    guard = guard_of(wires, group_words_on(state.base.words, rest_of(lot, wires), wires) + new_wires(lot, wires))
    going = tuple([(name, word) for name, word in came if word is not None])
    return State(guard, going, state.heard, tuple(sorted(list(state.gone) + gone)))


def with_wires(state, guard):
    """The state with the wires of this guard behind those that there are; Wide if there were too many then."""
    named = tuple([(name, word + "I" * guard.wires) for name, word in state.named])
    return State(side_by_side(state.base, guard), named, state.heard, state.gone)
