"""What DOC.md says of machines, journals and desks: a machine as the set of all words of its group, apart from the package.

A mark is the set of all words that are alike beside the guard; nothing here is done by bases.
"""

import re

from guardedwires.errors import BadGuard
from guardedwires.guards import Guard
from tests.oracle import (all_gates, contrary, cross, is_in, is_letters, is_numbers, is_word, led, misses, on, word_of,
                          words_cross)
from tests.oracle_guards import group_of
from tests.oracle_turns import group_told, is_name


class Refused(Exception):
    """A deed that is refused: the name of the error, and its value."""

    def __init__(self, name, value):
        self.told = (name, value)


def products(ones, others):
    return frozenset(word_of([one, other], len(one) - 1) for one in ones for other in others)


class Model:
    """Where a machine's deeds led: `those` are the words of its group, `marks` tell all words alike for each name."""

    def __init__(self, wires, words):
        self.wires = wires
        self.those = group_of(wires, tuple(words))
        self.marks, self.read, self.spoilt = {}, {}, set()

    def copy(self):
        other = Model(self.wires, ())
        other.those, other.marks, other.read, other.spoilt = self.those, dict(self.marks), dict(self.read), set(self.spoilt)
        return other

    def is_kept(self, word):
        passes = not any(words_cross(word, its) for its in self.those)
        return passes and word not in self.those and contrary(word) not in self.those

    def do(self, name, *told):
        getattr(self, "do_" + name)(*told)

    def need(self, is_right, error, value):
        if not is_right:
            raise Refused(error, value)

    def do_mark(self, name, word):
        self.need(is_name(name), "BadName", name)
        names = list(self.marks) + list(self.read) + list(self.spoilt)
        self.need(name not in names, "Held", name)
        self.need(len(names) < 6, "Full", 6)
        self.need(is_word(word, self.wires), "BadWord", word)
        self.need(self.is_kept(word), "NotKept", word)
        self.marks[name] = products([word], self.those)

    def do_gate(self, gate):
        self.need(is_in(gate, all_gates(self.wires)), "BadGate", gate)
        self.each(lambda word: led(word, (gate,)))

    def each(self, goes):
        self.those = frozenset(map(goes, self.those))
        self.marks = {name: frozenset(map(goes, words)) for name, words in self.marks.items()}

    def do_look(self, word):
        self.need(is_word(word, self.wires), "BadWord", word)
        self.need(contrary(word) not in self.those, "Never", word)
        if word in self.those:
            return
        is_kept, ahead = self.is_kept(word), self.those
        self.those = group_told(ahead, word)
        for name, words in list(self.marks.items()):
            if is_kept and (word in words or contrary(word) in words):
                self.read[name] = "+" if word in words else "-"
                del self.marks[name]
            else:
                self.go_on(name, [its for its in words if not words_cross(its, word)])

    def go_on(self, name, words):
        """The mark goes on as these words, times those of the group; if there are none it is spoilt."""
        if words:
            self.marks[name] = products(words[:1], self.those)
            assert set(words) <= self.marks[name]
        else:
            del self.marks[name]
            self.spoilt.add(name)

    def do_flip(self, letters):
        self.need(is_letters(letters, self.wires), "BadLetters", letters)
        self.each(lambda word: contrary(word) if cross(word[1:], letters) else word)

    def do_lose(self, lot):
        self.need(is_numbers(lot, self.wires) and lot != (), "BadLot", lot)
        stay = [word for word in self.those if misses(word[1:], lot)]
        new = ["+" + "I" * wire + "Z" + "I" * (self.wires - 1 - wire) for wire in lot]
        self.those = products(stay, group_of(self.wires, tuple(new)))
        for name, words in list(self.marks.items()):
            self.go_on(name, [its for its in words if misses(its[1:], lot)])

    def do_bring(self, guard):
        self.need(self.wires + guard.wires <= 6, "Wide", 6)
        behind = group_of(guard.wires, guard.words)
        ahead = frozenset("+" + "I" * self.wires + word[1:] if word[0] == "+" else "-" + "I" * self.wires + word[1:] for word in behind)
        longer = lambda words: products([word + "I" * guard.wires for word in words], ahead)
        self.wires += guard.wires
        self.those = longer(self.those)
        self.marks = {name: longer(words) for name, words in self.marks.items()}

    def right_off(self, name, lot, value):
        fit = [word for word in self.marks[name] if misses(word[1:], lot)]
        return is_in(value, fit) if fit else value is None

    def told_by(self, lot):
        return tuple(sorted(name for name, words in self.marks.items() if any(on(word[1:], lot) for word in words)))


def line_of(name, *told):
    """The line of a journal that tells this deed."""
    if name == "lose":
        return "lose " + " ".join(map(str, told[0]))
    if name == "bring":
        return " ".join(["bring", str(told[0].wires), *told[0].words])
    return " ".join([name, *told])


NUMBER = r"(?:0|-?[1-9][0-9]*)"
FORMS = {
    "mark": r"mark ([^ ]+) ([^ ]+)", "gate": r"gate ([^ ]+(?: [^ ]+)*)", "look": r"look ([^ ]+)",
         "flip": r"flip ([^ ]+)",
    "lose": rf"lose ({NUMBER}(?: {NUMBER})*)", "bring": rf"bring ({NUMBER}(?: [^ ]+)*)",
}
ASKED = {
    "kind": r"kind ([^ ]+)", "off": rf"off ([^ ]+) ({NUMBER}(?: {NUMBER})*)",
         "tells": rf"tells ({NUMBER}(?: {NUMBER})*)",
    "marks": "marks()", "spoilt": "spoilt()", "read": "read()", "wires": "wires()", "keeps": "keeps()",
}


def numbers_of(text):
    return tuple(int(number) for number in text.split(" "))


def deed_of(line):
    """(name, arguments) of the deed that the line tells; None if it has no such form."""
    for name, form in FORMS.items():
        told = re.fullmatch(form, line)
        if told and name == "lose":
            return name, (numbers_of(told[1]),)
        if told and name == "bring":
            try:
                return name, (Guard("\n".join(["wires " + told[1].split(" ")[0]] + ["guard " + word for word in told[1].split(" ")[1:]])),)
            except BadGuard:
                return None
        if told:
            return name, told.groups()
    return None


def wrong_line(text):
    """(number, None) of the first line of a journal that is wrong, or (None, the model) if none is."""
    if type(text) is not str:
        return 0, None
    lines = text.split("\n")
    if "machine" not in lines:
        return len(lines) + 1, None
    at = lines.index("machine")
    if at == 0:
        return 1, None
    try:
        guard = Guard("\n".join(lines[:at]))
    except BadGuard as why:
        return why.value, None
    model = Model(guard.wires, guard.words)
    for number in range(at + 1, len(lines)):
        deed = deed_of(lines[number])
        if deed is None:
            return number + 1, None
        try:
            model.do(deed[0], *deed[1])
        except Refused:
            return number + 1, None
    return None, model


def listed(words):
    return " ".join(words) or "."


def kept_many(model):
    """How many are kept: as many as halve the words of the group from those of two for each wire."""
    return model.wires - (len(model.those).bit_length() - 1)


def kind_of(model, word):
    if not is_word(word, model.wires):
        raise Refused("BadWord", word)
    if word in model.those:
        return "guard"
    if contrary(word) in model.those:
        return "contrary"
    return "kept" if model.is_kept(word) else "seen"


def asked(model, line):
    """The answer to a line that asks; Refused if it is no such line, or what it asks is refused."""
    for name, form in ASKED.items():
        told = re.fullmatch(form, line)
        if told and name == "kind":
            return kind_of(model, told[1])
        if told and name == "off":
            lot = numbers_of(told[2])
            model.need(told[1] in model.marks, "NoMark", told[1])
            model.need(is_numbers(lot, model.wires), "BadLot", lot)
            return "yes" if any(misses(word[1:], lot) for word in model.marks[told[1]]) else "no"
        if told and name == "tells":
            lot = numbers_of(told[1])
            model.need(is_numbers(lot, model.wires), "BadLot", lot)
            return listed(model.told_by(lot))
        if told:
            return {"marks": listed(sorted(model.marks)), "spoilt": listed(sorted(model.spoilt)),
                    "wires": str(model.wires),
                    "read": listed(sorted(mark + sign for mark, sign in model.read.items())),
                    "keeps": str(kept_many(model))}[name]
    raise Refused("BadLine", line)
