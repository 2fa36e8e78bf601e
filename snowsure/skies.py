"""Skies compared: whether all that falls of one can be answered by another one with no less on any street."""

from snowsure.kinds import is_integer, is_row, is_within


def ways_between(one, other):
    """For each pair of states and each arc of the one, a list of where the other's arcs with all its streets lead."""
    ways = {}
    for name, arcs in one[1]:
        for other_name, other_arcs in other[1]:
            ways[name, other_name] = [answers_to(arc, other_arcs) for arc in arcs]
    return ways


def answers_to(arc, other_arcs):
    """The pairs to which an arc and those of another sky lead that have all its streets."""
    behind, streets = arc
    return [
        (behind, other_behind)
        for other_behind, other_streets in other_arcs
        if all([street in other_streets for street in streets])
    ]


def compared(one, other):
    """("no worse", relation) or ("worse", lead)."""
    ways = ways_between(one, other)
    lead = lead_by(ways)
    if (one[0], other[0]) in lead:
        return "worse", lead
    return "no worse", {pair: True for pair in ways if pair not in lead}


def lead_by(ways):
    """The lead that has all pairs from which the one comes to an arc that nothing answers."""
    lead = {}
    rank = 0
    found = leading_to(ways, lead)
    while found:
        for pair in found:
            lead[pair] = (rank, found[pair])
        rank += 1
        found = leading_to(ways, lead)
    return lead


def leading_to(ways, lead):
    """The pairs that aren't in a lead but have an arc all answers to which lead to it, and the first such arc."""
    found = {}
    for pair in ways:
        if pair not in lead:
            arcs = [arc for arc, behind in enumerate(ways[pair]) if are_all_in(behind, lead)]
            if arcs:
                found[pair] = arcs[0]
    return found


def are_all_in(pairs, lots):
    return all([pair in lots for pair in pairs])


# Judges.


def has_pairs(one, other, ways, thing):
    """Whether a thing is a dict from pairs of states, the first ones among them."""
    return isinstance(thing, dict) and (one[0], other[0]) in thing and are_all_in(thing, ways)


def is_relation(one, other, thing):
    """Whether a thing is a relation, which shows that the one is no worse."""
    ways = ways_between(one, other)
    if not has_pairs(one, other, ways, thing):
        return False
    return all([any([behind in thing for behind in answers]) for pair in thing for answers in ways[pair]])


def is_lead(one, other, thing):
    """Whether a thing is a lead, which shows that the one is worse."""
    ways = ways_between(one, other)
    if not has_pairs(one, other, ways, thing):
        return False
    if not all([is_move(thing[pair], len(ways[pair])) for pair in thing]):
        return False
    for pair in thing:
        rank, arc = thing[pair]
        if not all([behind in thing and thing[behind][0] < rank for behind in ways[pair][arc]]):
            return False
    return True


def is_move(thing, many):
    """Whether a thing is a pair of a rank and the number of one of so many arcs."""
    if not is_row(thing, 2, 2):
        return False
    rank, arc = thing
    return is_integer(rank) and rank >= 0 and is_within(arc, 0, many - 1)


def comparison_holds(one, other, told):
    """Whether a thing tells how two skies compare, with what shows it."""
    if not is_row(told, 2, 2):
        return False
    word, thing = told
    if word == "no worse":
        return is_relation(one, other, thing)
    return word == "worse" and is_lead(one, other, thing)
