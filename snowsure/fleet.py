"""Without a desk: drivers who go by their cards, each by their own."""

from snowsure.cards import fewest_facts, is_card, seen_with
from snowsure.errors import BadPaper
from snowsure.kinds import is_row
from snowsure.world import beginning, closed_streets, follow


def cards_for(city, sky, rule):
    """The cards with the fewest facts for all ploughs."""
    cards = []
    for plough in range(len(city[2])):
        card, _ = fewest_facts(city, sky, rule, plough)
        cards.append(card)
    return tuple(cards)


def are_cards(city, sky, rule, thing):
    """Whether a thing is a tuple of cards for all ploughs."""
    many = len(city[2])
    if not is_row(thing, many, many):
        return False
    return all([is_card(city, sky, rule, plough, card) for plough, card in enumerate(thing)])


def orders_by_cards(standing, cards):
    """What drivers do by their cards."""
    return tuple([order_by_card(standing, plough, card) for plough, card in enumerate(cards)])


def order_by_card(standing, plough, card):
    """What a driver does by their card, None at no junction."""
    if standing[3][plough][0] != "at":
        return None
    facts, table = card
    sight = seen_with(standing, plough, facts)
    if sight not in table:
        raise BadPaper("card")
    return table[sight]


def driven_by_cards(city, sky, cards, answers):
    """The list of the standings of a run by cards, the beginning first."""
    standing = beginning(city, sky)
    standings = [standing]
    for answer in answers:
        standing = follow(city, sky, standing, orders_by_cards(standing, cards), answer)
        standings.append(standing)
    return standings


def ever_closed(city, standings):
    """The ascending tuple of the streets closed at any of some standings."""
    closed = {}
    for standing in standings:
        for street in closed_streets(city, standing):
            closed[street] = True
    return tuple(sorted(closed))
