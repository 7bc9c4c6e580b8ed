"""Offers of changes to a guard: which of them can be chosen together, and the guard by a choice."""

from guardedwires.errors import BadChoice, BadOffers
from guardedwires.groups import kind_of
from guardedwires.guards import guard_of
from guardedwires.leading import all_led
from guardedwires.reading import words_told
from guardedwires.rows import numbers_in
from guardedwires.values import is_ascending, is_from_to, is_gate, is_told, is_word

MOST_OFFERS = 4
MOST_PRICE = 99


def is_offer(guard, value):
    """Whether it is an offer for the guard."""
    if is_told(value, "gate", 3):
        is_right = is_gate(value[1], guard.wires)
    elif is_told(value, "leave", 3):
        is_right = is_from_to(value[1], 0, len(guard.words) - 1)
    elif is_told(value, "look", 3):
        is_right = is_word(value[1], guard.wires)
    else:
        return False
    return is_right and is_from_to(value[2], 1, MOST_PRICE)


def is_offers(guard, value):
    """Whether it is one to four offers, ascending, none alike but for their prices."""
    if not isinstance(value, tuple) or not 1 <= len(value) <= MOST_OFFERS:
        return False
    return all([is_offer(guard, offer) for offer in value]) and is_ascending([offer[:2] for offer in value])


def need_offers(guard, value):
    """BadOffers unless it is offers for the guard."""
    if not is_offers(guard, value):
        raise BadOffers(value)


def offered(choice, name):
    """What is offered under this name in the choice, in sequence."""
    return [offer[1] for offer in choice if offer[0] == name]


def words_by(guard, choice):
    """The words of a guard that has the group by this choice; None if it does not count."""
    words = all_led(guard.words, offered(choice, "gate"))
    left = offered(choice, "leave")
    words = [word for number, word in enumerate(words) if number not in left]
    for word in offered(choice, "look"):
        if kind_of(words, word) == "contrary":
            return None
        words = words_told(words, word)
    return words


def price_of(choice):
    """The sum of the prices of what is chosen."""
    return sum([offer[2] for offer in choice])


def choices_that_count(guard, offers):
    """All choices of these offers that count: by price, then by how many offers, then as tuples."""
    some = [tuple([offers[number] for number in numbers_in(mask)]) for mask in range(1 << len(offers))]
    told = [(price_of(choice), len(choice), choice) for choice in some if words_by(guard, choice) is not None]
    return [choice for _, _, choice in sorted(told)]


def choices(guard, offers):
    """The tuple of all choices that count, in sequence."""
    need_offers(guard, offers)
    return tuple(choices_that_count(guard, offers))


def by(guard, choice):
    """A Guard that has the group of the guard by this choice."""
    if choice != () and not is_offers(guard, choice):
        raise BadChoice(choice)
    words = words_by(guard, choice)
    if words is None:
        raise BadChoice(choice)
    return guard_of(guard.wires, words)
