"""Cards: what a driver has to be told to go by themselves, and what shows that less won't do.

A rule is one that keeps the promise, as far as standings can be come to by it. A LOT is an ascending tuple of facts;
the orders due are a dict from the standings to which a rule comes with a plough at a junction, to the plough's orders.
"""

from itertools import combinations

from snowsure.kinds import is_integer, is_row
from snowsure.ruled import come_to
from snowsure.world import can_be_ordered, is_standing


def all_facts(city, plough):
    """The ascending tuple of all facts that a plough's driver can be told."""
    facts = [("time",), ("state",), ("fallen",)]
    facts += [("snow", number) for number in range(len(city[1]))]
    facts += [("plough", number) for number in range(len(city[2])) if number != plough]
    return tuple(sorted(facts))


def seen_with(standing, plough, facts):
    """The junction where a plough is, and what some facts are at a standing."""
    return (standing[3][plough][1], *[fact_at(standing, fact) for fact in facts])


def fact_at(standing, fact):
    """What a fact is at a standing."""
    time, state, snow, ploughs, fallen = standing
    word = fact[0]
    if word == "time":
        return time
    if word == "state":
        return state
    if word == "fallen":
        return fallen
    return snow[fact[1]] if word == "snow" else ploughs[fact[1]]


def orders_due(city, sky, rule, plough):
    """The orders due to a plough by a rule."""
    return {
        standing: rule[standing][plough]
        for standing in come_to(city, sky, rule)
        if standing[3][plough][0] == "at"
    }


def lots_of(city, plough, many):
    """The list of all lots of so many facts."""
    if many < 0:
        return []
    facts = list(all_facts(city, plough))
    return list(combinations(facts, many))


def told_by(due, plough, facts):
    """A card with some facts, or a pair of standings that are seen alike and have other orders."""
    table = {}
    seen = {}
    for standing in due:
        sight = seen_with(standing, plough, facts)
        if sight not in table:
            table[sight] = due[standing]
            seen[sight] = standing
        elif table[sight] != due[standing]:
            return seen[sight], standing
    return facts, table


def card_of(city, sky, rule, plough, facts):
    """A card with some facts, or, if there is none, a pair of standings that shows it."""
    return told_by(orders_due(city, sky, rule, plough), plough, facts)


def first_card(due, plough, lots):
    """(card, ()) for the first of some lots with which there is a card, (None, pairs) if there is none."""
    pairs = []
    for facts in lots:
        told = told_by(due, plough, facts)
        if isinstance(told[1], dict):
            return told, ()
        pairs.append((facts, *told))
    return None, tuple(pairs)


def fewest_facts(city, sky, rule, plough):
    """(card, pairs): a card with the fewest facts, and for all lots of one fewer what shows that they won't do."""
    due = orders_due(city, sky, rule, plough)
    many = 0
    pairs = ()
    card, further = first_card(due, plough, lots_of(city, plough, many))
    # All facts together tell any two standings apart, so that a card comes at last.
    while card is None:
        many += 1
        pairs = further
        card, further = first_card(due, plough, lots_of(city, plough, many))
    return card, pairs


# Judges.


def are_facts(city, plough, thing):
    """Whether a thing is a tuple of facts that a plough's driver can be told."""
    if not isinstance(thing, tuple):
        return False
    facts = all_facts(city, plough)
    return all([fact in facts and (len(fact) == 1 or is_integer(fact[1])) for fact in thing])


def is_card(city, sky, rule, plough, thing):
    """Whether a thing is a card that tells a plough's orders by a rule."""
    if not is_row(thing, 2, 2):
        return False
    facts, table = thing
    if not are_facts(city, plough, facts) or not isinstance(table, dict):
        return False
    due = orders_due(city, sky, rule, plough)
    return all([is_told(city, standing, plough, thing, due[standing]) for standing in due])


def is_told(city, standing, plough, card, order):
    """Whether a card tells an order to a plough at a standing."""
    facts, table = card
    sight = seen_with(standing, plough, facts)
    return sight in table and table[sight] == order and can_be_ordered(city, standing[3][plough], table[sight])


def are_pairs(city, sky, rule, plough, many, thing):
    """Whether a thing shows, for all lots of so many facts, that there is no card with them."""
    lots = lots_of(city, plough, many)
    if not is_row(thing, len(lots), len(lots)):
        return False
    due = orders_due(city, sky, rule, plough)
    for facts, row in zip(lots, thing):
        if not is_row(row, 3, 3) or not are_facts(city, plough, row[0]) or row[0] != facts:
            return False
        if not all([is_standing(city, sky, standing) and standing in due for standing in row[1:]]):
            return False
        if not is_pair(due, plough, *row):
            return False
    return True


def is_pair(due, plough, facts, one, other):
    """Whether two standings are seen alike and have other orders."""
    return seen_with(one, plough, facts) == seen_with(other, plough, facts) and due[one] != due[other]
