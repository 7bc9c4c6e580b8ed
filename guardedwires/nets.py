"""Nets: guards that are told by which wires are tied, and what parts of them are cut off by."""

from guardedwires.errors import BadNet, BadNumber, Keeps, Wide
from guardedwires.guards import guard_of, in_steps, led_guard
from guardedwires.leading import all_led
from guardedwires.needs import need_lot
from guardedwires.rows import beside, mask_of, numbers_in
from guardedwires.stepping import is_same_group
from guardedwires.values import is_from_to, is_net, is_single_gates, is_tuple_of

MOST_MANY = 5


def need_net(many, net):
    """BadNumber unless many is an integer from 1 to 5; BadNet unless net is one of so many wires."""
    if not is_from_to(many, 1, MOST_MANY):
        raise BadNumber(many)
    if not is_net(net, many):
        raise BadNet(net)


def neighbours(net, wire):
    """The wires that are tied to this one."""
    return [one + other - wire for one, other in net if wire in (one, other)]


def words_of_net(many, net):
    """For each wire the word with X there and Z at its neighbours."""
    words = []
    for wire in range(many):
        tied = neighbours(net, wire)
        words.append("+" + "".join(["X" if at == wire else "Z" if at in tied else "I" for at in range(many)]))
    return words


def net_guard(many, net):
    """The Guard with, for each wire, the word with X there and Z at its neighbours."""
    need_net(many, net)
    return guard_of(many, words_of_net(many, net))


def need_nothing_kept(guard):
    """Wide if there are too many wires; Keeps if something is kept."""
    if guard.wires > MOST_MANY:
        raise Wide(MOST_MANY)
    if guard.kept > 0:
        raise Keeps(guard.kept)


def gates_at_wires(name, wires):
    """The gates with this name at these wires."""
    return [f"{name} {wire}" for wire in wires]


def first_x(word):
    """The first wire where the word has X or Y; None if there is none."""
    for wire, letter in enumerate(word[1:]):
        if letter in "XY":
            return wire
    return None


def gates_to_net(guard):
    """(words, gates): single gates that lead the guard to that of a net, and the words of that one."""
    firsts = [first_x(word) for word in in_steps(guard).words]
    gates = gates_at_wires("h", [wire for wire in range(guard.wires) if wire not in firsts])
    # In steps each word has now X or Y at its own wire alone.
    words = in_steps(led_guard(guard, tuple(gates))).words
    more = gates_at_wires("s", [wire for wire, word in enumerate(words) if word[1 + wire] == "Y"])
    words = all_led(words, more)
    last = gates_at_wires("z", [wire for wire, word in enumerate(words) if word[0] == "-"])
    return all_led(words, last), gates + more + last


def as_net(guard):
    """(net, gates): single gates that lead the guard to that of this net."""
    need_nothing_kept(guard)
    words, gates = gates_to_net(guard)
    net = []
    for wire, word in enumerate(words):
        net = net + [(wire, other) for other in range(wire + 1, guard.wires) if word[1 + other] == "Z"]
    return tuple(net), tuple(gates)


def shows_as_net(guard, value):
    """Whether this is such a result as is told for as_net."""
    need_nothing_kept(guard)
    if not is_tuple_of(value, 2) or not is_net(value[0], guard.wires) or not is_single_gates(value[1], guard.wires):
        return False
    came = all_led(guard.words, value[1])
    return is_same_group(came, words_of_net(guard.wires, value[0]), guard.wires)


def cut_of(net, lot):
    """The cut of the lot in this net."""
    others = [mask_of([other for other in neighbours(net, wire) if other not in lot]) for wire in lot]
    return len(beside([], others))


def cut(many, net, lot):
    """Of how many lots of neighbours off the lot, of its wires, all such lots are sums."""
    need_net(many, net)
    need_lot(lot, many)
    return cut_of(net, lot)


def cuts(many, net):
    """(lot, cut) of all lots that have wire 0, ascending."""
    need_net(many, net)
    lots = [numbers_in(mask) for mask in range(1 << many)]
    return tuple(sorted([(lot, cut_of(net, lot)) for lot in lots if 0 in lot]))
