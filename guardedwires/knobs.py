"""Knobs, turned by angles that nobody knows: what rows of them do to what is kept."""

from guardedwires.errors import BadRow, BadSome, Out
from guardedwires.groups import is_kept, kind_of, need_kept
from guardedwires.kinds import alike_beside, kept_crossing
from guardedwires.letters import product_of_two, word_of, words_cross
from guardedwires.needs import need_word
from guardedwires.values import is_ascending, is_exactly, is_from_to, is_name, is_numbers, is_told, is_tuple_of
from guardedwires.values import is_word

MOST_TURNS = 12


def is_turn(guard, value):
    """Whether it is (name, word)."""
    return is_tuple_of(value, 2) and is_name(value[0]) and is_word(value[1], guard.wires)


def is_row(guard, value):
    """Whether it is a row: none to twelve turns, their names unlike."""
    if not isinstance(value, tuple) or len(value) > MOST_TURNS or not all([is_turn(guard, turn) for turn in value]):
        return False
    names = [name for name, _ in value]
    return all([names.count(name) == 1 for name in names])


def need_row(guard, value):
    """BadRow unless it is a row; Out with the number of the first turn whose word is seen."""
    if not is_row(guard, value):
        raise BadRow(value)
    for number, turn in enumerate(value):
        if kind_of(guard.words, turn[1]) == "seen":
            raise Out(number)


def does_work(guard, turn):
    """Whether this turn, whose word is not seen, works."""
    return kind_of(guard.words, turn[1]) == "kept"


def working(guard, row):
    """The ascending tuple of the numbers of all turns that work."""
    need_row(guard, row)
    return tuple([number for number, turn in enumerate(row) if does_work(guard, turn)])


def is_some(value):
    """Whether it is an ascending tuple of unlike names."""
    return isinstance(value, tuple) and all([is_name(name) for name in value]) and is_ascending(value)


def led_by_quarters(row, some, word):
    """The word to which it is led by the turns with these names, each by a quarter."""
    came = word
    for name, its in row:
        if name in some and words_cross(its, came):
            quarters, letters = product_of_two(its, came)
            came = word_of((quarters + 1) % 4, letters)
    return came


def quarter_turned(guard, row, some, word):
    """The word to which this kept one is led by the turns of row whose names are in some, each by a quarter."""
    need_row(guard, row)
    if not is_some(some):
        raise BadSome(some)
    need_word(word, guard.wires)
    need_kept(guard.words, word)
    return led_by_quarters(row, some, word)


def need_two_rows(guard, row, other):
    """BadRow and Out for row, then for other."""
    need_row(guard, row)
    need_row(guard, other)


def working_turns(guard, row):
    """Those turns of the row that work."""
    return [turn for turn in row if does_work(guard, turn)]


def word_at(row, name):
    """The word of the turn with this name; None if there is none."""
    for its, word in row:
        if its == name:
            return word
    return None


def word_parting(guard, one, other):
    """A kept word that turns by these two words (None stands for no turn) lead apart; None if there is none."""
    if one is not None and other is not None and alike_beside(guard, one, other)[0] == "alike":
        return None
    # Unless both words are alike, whatever crosses one of them is led apart, whether it crosses the other one or not.
    return kept_crossing(guard, (one or other)[1:])


def apart_by_one(guard, mine, its):
    """("apart", (name,), word) of a name that does not do the same in both; None if there is none."""
    for name in [name for name, _ in mine] + [name for name, _ in its]:
        word = word_parting(guard, word_at(mine, name), word_at(its, name))
        if word is not None:
            return ("apart", (name,), word)
    return None


def apart_by_two(mine, its):
    """("apart", names, word) of two names that cross and stand in unlike sequences; None if there are none."""
    places = {name: place for place, (name, _) in enumerate(its)}
    for number, (name, word) in enumerate(mine):
        for ahead, its_word in mine[:number]:
            if words_cross(word, its_word) and places[name] < places[ahead]:
                return ("apart", tuple(sorted([name, ahead])), word)
    return None


def how_apart(guard, row, other):
    """("apart", some, word) if the rows do not do the same; None if they do."""
    mine = working_turns(guard, row)
    its = working_turns(guard, other)
    found = apart_by_one(guard, mine, its)
    return apart_by_two(mine, its) if found is None else found


def places_leading(mine, its):
    """Places whose exchanges, one behind the other, lead mine to the sequence of its, which has the same names."""
    wanted = {name: place for place, (name, _) in enumerate(its)}
    stands = [wanted[name] for name, _ in mine]
    places = []
    for _ in range(len(stands)):
        for place in range(len(stands) - 1):
            if stands[place] > stands[place + 1]:
                stands[place:place + 2] = [stands[place + 1], stands[place]]
                places.append(place)
    return tuple(places)


def same_row(guard, row, other):
    """("same", places) if both rows do the same on what is kept, otherwise ("apart", some, word)."""
    need_two_rows(guard, row, other)
    apart = how_apart(guard, row, other)
    if apart is not None:
        return apart
    return ("same", places_leading(working_turns(guard, row), working_turns(guard, other)))


def leads_to_names(mine, places, names):
    """Whether these exchanges, all of words that pass, lead mine to a row with these names."""
    came = list(mine)
    for place in places:
        if not is_from_to(place, 0, len(came) - 2) or words_cross(came[place][1], came[place + 1][1]):
            return False
        came[place:place + 2] = [came[place + 1], came[place]]
    return [name for name, _ in came] == names


def shows_same_row(guard, row, other, value):
    """Whether this is such a result as is told for same_row."""
    need_two_rows(guard, row, other)
    if is_told(value, "apart", 3):
        if not is_some(value[1]) or not is_kept(guard.words, value[2], guard.wires):
            return False
        one = led_by_quarters(row, value[1], value[2])
        return alike_beside(guard, one, led_by_quarters(other, value[1], value[2]))[0] != "alike"
    if not is_told(value, "same", 2) or not isinstance(value[1], tuple) or how_apart(guard, row, other) is not None:
        return False
    names = [name for name, _ in working_turns(guard, other)]
    return leads_to_names(working_turns(guard, row), value[1], names)


def layers_of(guard, row):
    """For each number of a turn that works the number of its lot."""
    layers = {}
    for number, turn in enumerate(row):
        if does_work(guard, turn):
            ahead = [layers[other] for other in layers if words_cross(row[other][1], turn[1])]
            layers[number] = max([-1] + ahead) + 1
    return layers


def lots_of(layers):
    """The lots of turns that can be turned together."""
    many = max([-1] + [layers[number] for number in layers]) + 1
    return tuple([tuple([number for number in layers if layers[number] == layer]) for layer in range(many)])


def chain_to(row, layers, last):
    """Turns of all layers up to this one's, each crossing the one behind it, this one last."""
    chain = (last,)
    for layer in range(layers[last] - 1, -1, -1):
        its = row[chain[0]][1]
        ahead = [one for one in layers if one < chain[0] and layers[one] == layer and words_cross(row[one][1], its)]
        chain = (ahead[0],) + chain
    return chain


def depth(guard, row):
    """(lots, chain): turns that can be turned together, and as many turns each two neighbours of which cross."""
    need_row(guard, row)
    layers = layers_of(guard, row)
    lots = lots_of(layers)
    if len(lots) == 0:
        return (), ()
    return lots, chain_to(row, layers, lots[-1][0])


def shows_depth(guard, row, value):
    """Whether this is such a result as is told for depth."""
    lots = depth(guard, row)[0]
    if not is_tuple_of(value, 2) or not is_exactly(value[0], lots):
        return False
    chain = value[1]
    if not is_numbers(chain, len(row)) or len(chain) != len(lots):
        return False
    if not all([does_work(guard, row[number]) for number in chain]):
        return False
    return all([words_cross(row[one][1], row[other][1]) for one, other in zip(chain, chain[1:])])
