"""A machine on which gates, looks, losses and faults are told one by one."""

from guardedwires.errors import BadGate, BadLot, BadName, Full, Held, Never, NoMark, NothingToRedo, NothingToUndo
from guardedwires.errors import NoTrial
from guardedwires.groups import is_kept, kind_of, need_kept
from guardedwires.kinds import alike_beside
from guardedwires.letters import rest_of
from guardedwires.losing import misses
from guardedwires.needs import need_letters, need_lot, need_word
from guardedwires.states import State, Step, Undone, flipped, gated, journal_of, looked_at, marked, names_in
from guardedwires.states import with_wires, without_wires, word_named, word_off
from guardedwires.values import is_gate, is_name

MOST_NAMES = 6


class Trial:
    """A block of a machine: behind it the machine is as it was, unless it was kept."""

    def __init__(self, machine):
        self.machine = machine
        self.now = None
        self.undone = None
        self.outer = None
        # None until it is kept, not False: the end of a block asks attributes by None alone.
        self.stays = None

    def __enter__(self):
        # What was done since this trial was made stands ahead of the block.
        self.now = self.machine.now
        self.undone = self.machine.undone
        self.outer = self.machine.block
        self.machine.block = self
        return self.machine

    def __exit__(self, kind, value, trace):
        self.machine.block = self.outer
        if kind is not None or self.stays is None:
            self.machine.now = self.now
            self.machine.undone = self.undone


class Machine:
    """A machine whose wires are guarded; words that it keeps get names, and are led along."""

    def __init__(self, guard):
        self.first = guard
        self.now = Step(State(guard, (), (), ()), "", None)
        self.undone = None
        self.block = None

    @property
    def guard(self):
        """A Guard that has the group as it is now."""
        return self.now.state.base

    @property
    def marks(self):
        """All (name, word) that are kept, ascending."""
        return self.now.state.named

    @property
    def read(self):
        """All (name, sign) that were read, ascending."""
        return self.now.state.heard

    @property
    def spoilt(self):
        """The names of all that were spoilt, ascending."""
        return self.now.state.gone

    @property
    def done(self):
        """How many deeds stand."""
        return self.now.many

    def __len__(self):
        return len(self.marks)

    def __contains__(self, x):
        return isinstance(x, str) and x in [name for name, _ in self.marks]

    def __eq__(self, other):
        if not isinstance(other, Machine):
            return False
        return journal_of(self.first, self.now) == journal_of(other.first, other.now)

    def stand_at(self, state, line):
        """Let a deed stand that led to this state, and is told by this line."""
        self.now = Step(state, line, self.now)
        self.undone = None

    def mark(self, name, word):
        """Give a kept word a name."""
        if not is_name(name):
            raise BadName(name)
        if name in names_in(self.now.state):
            raise Held(name)
        if len(names_in(self.now.state)) == MOST_NAMES:
            raise Full(MOST_NAMES)
        need_word(word, self.guard.wires)
        need_kept(self.guard.words, word)
        self.stand_at(marked(self.now.state, name, word), f"mark {name} {word}")

    def gate(self, gate):
        """Lead all words by this gate."""
        if not is_gate(gate, self.guard.wires):
            raise BadGate(gate)
        self.stand_at(gated(self.now.state, gate), "gate " + gate)

    def look(self, word):
        """Look at the word's letters, and hear its sign."""
        need_word(word, self.guard.wires)
        if kind_of(self.guard.words, word) == "contrary":
            raise Never(word)
        self.stand_at(looked_at(self.now.state, word), "look " + word)

    def flip(self, letters):
        """Turn the sign of all words that cross these letters."""
        need_letters(letters, self.guard.wires)
        self.stand_at(flipped(self.now.state, letters), "flip " + letters)

    def lose(self, lot):
        """Lose these wires, one at least; they come back as new ones."""
        need_lot(lot, self.guard.wires)
        if len(lot) == 0:
            raise BadLot(lot)
        line = " ".join(["lose"] + [str(wire) for wire in lot])
        self.stand_at(without_wires(self.now.state, lot), line)

    def bring(self, guard):
        """Bring the wires of this Guard, behind those that there are."""
        line = " ".join(["bring", str(guard.wires)] + list(guard.words))
        self.stand_at(with_wires(self.now.state, guard), line)

    def need_mark(self, name, lot):
        """NoMark; BadLot: the word of the mark that is kept with this name."""
        if name not in self:
            raise NoMark(name)
        need_lot(lot, self.guard.wires)
        return word_named(self.now.state, name)

    def off(self, name, lot):
        """A word that is alike with this mark's beside the guard, and has I on the lot; None if there is none."""
        return word_off(self.guard, self.need_mark(name, lot), lot)

    def shows_off(self, name, lot, value):
        """Whether this is such a result as is told for off."""
        word = self.need_mark(name, lot)
        if word_off(self.guard, word, lot) is None:
            return value is None
        if not is_kept(self.guard.words, value, self.guard.wires) or not misses(value[1:], lot):
            return False
        return alike_beside(self.guard, word, value)[0] == "alike"

    def told_by(self, lot):
        """The names of all marks that are alike beside the guard with some word on the lot, ascending."""
        need_lot(lot, self.guard.wires)
        rest = rest_of(lot, self.guard.wires)
        return tuple([name for name, word in self.marks if word_off(self.guard, word, rest) is not None])

    def undo(self):
        """Take the last deed back that stands."""
        if self.now.ahead is None:
            raise NothingToUndo(None)
        self.undone = Undone(self.now, self.undone)
        self.now = self.now.ahead

    def redo(self):
        """Do the deed again that was taken back last."""
        if self.undone is None:
            raise NothingToRedo(None)
        self.now = self.undone.step
        self.undone = self.undone.rest

    def trial(self):
        """What a block is entered by, behind which the machine is as it was, unless it is kept."""
        return Trial(self)

    def keep(self):
        """Let stand what is done in the innermost block."""
        if self.block is None:
            raise NoTrial(None)
        self.block.stays = True

    def tried(self, look, *, keep=False):
        """What look returns, called with the machine within a block, which is kept if keep is True."""
        with self.trial():
            if keep is True:
                self.keep()
            told = look(self)
        return told

    def copy(self):
        """An independent machine, alike in all things, outside of all blocks."""
        other = Machine(self.first)
        other.now = self.now
        other.undone = self.undone
        return other
