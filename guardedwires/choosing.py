"""The cheapest choice of offers by which wishes come true."""

from guardedwires.errors import BadWishes
from guardedwires.guards import guard_of
from guardedwires.offers import choices_that_count, need_offers, price_of, words_by
from guardedwires.values import is_exactly, is_from_to, is_told, is_tuple_of
from guardedwires.wishes import has_come_true, is_wish

MOST_WISHES = 3


def need_offers_and_wishes(guard, offers, wishes):
    """BadOffers; BadWishes unless they are one to three wishes for the guard."""
    need_offers(guard, offers)
    if not isinstance(wishes, tuple) or not 1 <= len(wishes) <= MOST_WISHES:
        raise BadWishes(wishes)
    if not all([is_wish(guard, wish) for wish in wishes]):
        raise BadWishes(wishes)


def failing(guard, choice, wishes):
    """The numbers of those of these wishes that do not come true by this choice."""
    by_choice = guard_of(guard.wires, words_by(guard, choice))
    return [number for number, wish in enumerate(wishes) if not has_come_true(by_choice, wish)]


def searched(guard, offers, wishes):
    """(choice, tried): the first choice that does, or None; and each one ahead of it, with what fails by it."""
    tried = []
    for choice in choices_that_count(guard, offers):
        numbers = failing(guard, choice, wishes)
        if len(numbers) == 0:
            return choice, tried
        tried.append((choice, numbers))
    return None, tried


def cheapest(guard, offers, wishes):
    """("choice", price, choice, reasons) of the first one by which all wishes come true, or ("none", reasons)."""
    need_offers_and_wishes(guard, offers, wishes)
    found, tried = searched(guard, offers, wishes)
    reasons = tuple([(choice, numbers[0]) for choice, numbers in tried])
    if found is None:
        return ("none", reasons)
    return ("choice", price_of(found), found, reasons)


def is_reasons(tried, value):
    """Whether it tells, of each choice that was tried, one wish that fails by it."""
    if not is_tuple_of(value, len(tried)):
        return False
    for reason, (choice, numbers) in zip(value, tried):
        if not is_tuple_of(reason, 2) or not is_exactly(reason[0], choice):
            return False
        if not any([is_from_to(reason[1], number, number) for number in numbers]):
            return False
    return True


def shows_cheapest(guard, offers, wishes, value):
    """Whether this is such a result as is told for cheapest."""
    need_offers_and_wishes(guard, offers, wishes)
    found, tried = searched(guard, offers, wishes)
    if found is None:
        return is_told(value, "none", 2) and is_reasons(tried, value[1])
    if not is_told(value, "choice", 4) or not is_exactly(value[1:3], (price_of(found), found)):
        return False
    return is_reasons(tried, value[3])
