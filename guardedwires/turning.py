"""Nets that are one but for turns of single wires, and what a look leaves of a net."""

from guardedwires.errors import BadHeard, BadWire, Never
from guardedwires.groups import kind_of, word_in_group
from guardedwires.guards import guard_of
from guardedwires.leading import all_led
from guardedwires.nets import as_net, cut_of, need_net, neighbours, words_of_net
from guardedwires.rows import numbers_in
from guardedwires.stepping import is_same_group, words_behind
from guardedwires.tables import gates_at, sign_gates
from guardedwires.values import is_from_to, is_lot, is_net, is_single_gates, is_told, is_tuple_of

HEARD = ("+X", "+Y", "+Z", "-X", "-Y", "-Z")


def need_wire(many, value):
    """BadWire unless it is one of so many wires."""
    if not is_from_to(value, 0, many - 1):
        raise BadWire(value)


def turned_net(net, wire):
    """The net turned at this wire."""
    tied = sorted(neighbours(net, wire))
    among = [(one, other) for one in tied for other in tied if one < other]
    left = [tie for tie in net if tie not in among]
    return tuple(sorted(left + [tie for tie in among if tie not in net]))


def turned(many, net, wire):
    """The net turned at this wire: its neighbours are tied where they were not, and the other way about."""
    need_net(many, net)
    need_wire(many, wire)
    return turned_net(net, wire)


def turned_along(net, wires):
    """The net turned at these wires, one behind the other."""
    came = net
    for wire in wires:
        came = turned_net(came, wire)
    return came


def fewest_turns(many, net):
    """For each net that comes of this one by turns: wires, as few as can be, at which it is turned to that."""
    ways = {net: ()}
    last = [net]
    while len(last) > 0:
        found = []
        for one in last:
            for wire in range(many):
                other = turned_net(one, wire)
                if other not in ways:
                    ways[other] = ways[one] + (wire,)
                    found.append(other)
        last = found
    return ways


def gates_turning(many, net, wires):
    """Single gates that lead the guard of the net to that of the net turned at these wires."""
    gates = []
    for number, wire in enumerate(wires):
        gates = gates + gates_at(("h", "s", "h"), wire)
        for tied in neighbours(turned_along(net, wires[:number]), wire):
            gates = gates + gates_at(("s",), tied)
    came = all_led(words_of_net(many, net), gates)
    wanted = words_of_net(many, turned_along(net, wires))
    return tuple(gates + sign_gates([word_in_group(came, word[1:]) for word in wanted], wanted, many))


def need_two_nets(many, net, other):
    """BadNumber; BadNet for net, then for other."""
    need_net(many, net)
    need_net(many, other)


def one_net(many, net, other):
    """("turns", wires, gates) that lead the one net to the other one, or ("apart", lot) with unlike cuts."""
    need_two_nets(many, net, other)
    ways = fewest_turns(many, net)
    if other in ways:
        return ("turns", ways[other], gates_turning(many, net, ways[other]))
    lots = [numbers_in(mask) for mask in range(1 << many)]
    return ("apart", [lot for lot in lots if cut_of(net, lot) != cut_of(other, lot)][0])


def is_wires(many, value, most):
    """Whether it is a tuple of just so many wires, in any sequence, perhaps one twice."""
    return is_tuple_of(value, most) and all([is_from_to(wire, 0, many - 1) for wire in value])


def shows_one_net(many, net, other, value):
    """Whether this is such a result as is told for one_net."""
    need_two_nets(many, net, other)
    if is_told(value, "apart", 2):
        return is_lot(value[1], many) and cut_of(net, value[1]) != cut_of(other, value[1])
    ways = fewest_turns(many, net)
    if other not in ways or not is_told(value, "turns", 3) or not is_wires(many, value[1], len(ways[other])):
        return False
    if turned_along(net, value[1]) != other or not is_single_gates(value[2], many):
        return False
    return is_same_group(all_led(words_of_net(many, net), value[2]), words_of_net(many, other), many)


def all_turned(many, net):
    """All nets that come of this one by turns, ascending."""
    need_net(many, net)
    return tuple(sorted(list(fewest_turns(many, net))))


def fewest_ties(many, net):
    """(number, wires, other): a net with as few ties as can be, and the turns that lead to it."""
    need_net(many, net)
    ways = fewest_turns(many, net)
    number, other = min([(len(one), one) for one in ways])
    return number, ways[other], other


def shows_fewest_ties(many, net, value):
    """Whether this is such a result as is told for fewest_ties."""
    number = fewest_ties(many, net)[0]
    if not is_tuple_of(value, 3) or not is_from_to(value[0], number, number) or not is_net(value[2], many):
        return False
    ways = fewest_turns(many, net)
    if len(value[2]) != number or value[2] not in ways or not is_wires(many, value[1], len(ways[value[2]])):
        return False
    return turned_along(net, value[1]) == value[2]


def words_heard(many, net, wire, heard):
    """BadNumber, BadNet, BadWire, BadHeard, Never: the words of the net's guard behind this look at one wire."""
    need_net(many, net)
    need_wire(many, wire)
    if heard not in HEARD:
        raise BadHeard(heard)
    word = heard[0] + "I" * wire + heard[1] + "I" * (many - 1 - wire)
    words = words_of_net(many, net)
    if kind_of(words, word) == "contrary":
        raise Never(word)
    return words_behind(words, word)


def looked_net(many, net, wire, heard):
    """(other, gates): a net in which this wire has no tie, and gates that lead what the look left to its guard."""
    # Nothing is shared by the wire and the others, so any net of this guard leaves it without a tie.
    return as_net(guard_of(many, words_heard(many, net, wire, heard)))


def shows_looked_net(many, net, wire, heard, value):
    """Whether this is such a result as is told for looked_net."""
    words = words_heard(many, net, wire, heard)
    if not is_tuple_of(value, 2) or not is_net(value[0], many) or not is_single_gates(value[1], many):
        return False
    if len(neighbours(value[0], wire)) > 0:
        return False
    return is_same_group(all_led(words, value[1]), words_of_net(many, value[0]), many)
