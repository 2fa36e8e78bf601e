"""Rules carried over to a milder city or under a milder sky, and what is left of a rule when something was changed."""

from snowsure.cities import arcs_of
from snowsure.errors import BadPaper
from snowsure.ruled import all_behind, has_orders, leading_there
from snowsure.skies import is_relation
from snowsure.world import are_orders, beginning, closed_streets, follow, followers


def is_milder(city, other):
    """Whether what can be promised in another city can be promised in a city, told by the cities alone."""
    junctions, streets, ploughs, (day, late, falls) = city
    other_junctions, other_streets, other_ploughs, (other_day, other_late, other_falls) = other
    if junctions != other_junctions or day != other_day or len(streets) != len(other_streets):
        return False
    if not all([is_milder_street(street, harder) for street, harder in zip(streets, other_streets)]):
        return False
    return ploughs[:len(other_ploughs)] == other_ploughs and late <= other_late and falls <= other_falls


def is_milder_street(street, other):
    """Whether a street is the same as another one but for a limit that isn't lower, and hours at no other ticks."""
    if street[:5] != other[:5] or street[5] < other[5]:
        return False
    asked = ticks_asked(other)
    return all([tick in asked for tick in ticks_asked(street)])


def ticks_asked(street):
    """The ticks of the day at which a street is asked."""
    return [tick for begin, end in street[6] for tick in range(begin, end)]


def carried_rule(city, sky, harder, rule, relation):
    """A rule that keeps the promise of a city, out of one that keeps that of a harder one."""
    other, other_sky = harder
    if not is_milder(city, other):
        raise BadPaper("the city isn't milder")
    if not is_relation(sky, other_sky, relation):
        raise BadPaper("the relation isn't one of the skies")
    idle = (None,) * (len(city[2]) - len(other[2]))
    first = beginning(city, sky)
    standings = [first]
    # For each standing one of the harder city that is no better; which one is no matter.
    matches = {first: beginning(other, other_sky)}
    carried = {}
    while standings:
        standing = standings.pop()
        match_there = matches[standing]
        orders = orders_there(other, rule, match_there)
        carried[standing] = orders + idle
        for answer, behind in followers(city, sky, standing, carried[standing]):
            if behind not in matches:
                answered = answer_there(harder, sky, standing, match_there, answer, relation)
                matches[behind] = follow(other, other_sky, match_there, orders, answered)
                standings.append(behind)
    return carried


def orders_there(other, rule, standing):
    """A rule's orders at a standing of the harder city; BadPaper if it has none that can be given."""
    if standing not in rule:
        raise BadPaper("the rule lacks a standing that it comes to")
    if not are_orders(other, standing, rule[standing]):
        raise BadPaper("the rule has orders that can't be given")
    return rule[standing]


def answer_there(harder, sky, standing, match_there, answer, relation):
    """An answer in the harder city that is no better than one here."""
    other, other_sky = harder
    arc, comes, breaks = answer
    behind, streets = arcs_of(sky, standing[1])[arc]
    arcs = [
        number
        for number, (other_behind, other_streets) in enumerate(arcs_of(other_sky, match_there[1]))
        if (behind, other_behind) in relation and all([street in other_streets for street in streets])
    ]
    many = len(other[2])
    # Ploughs beyond those of the harder city may break down here, and do nothing there.
    is_there = breaks is not None and breaks < many
    return arcs[0], comes[:many], breaks if is_there else None


def kept_part(city, sky, rule):
    """The greatest part of a rule in which nothing is wrong, and in which all that follows is again."""
    ways = {}
    for standing in rule:
        if has_orders(city, sky, rule, standing) and not closed_streets(city, standing):
            ways[standing] = all_behind(city, sky, standing, rule[standing])
    ahead = leading_there(ways)
    lost = [standing for standing in ahead if standing not in ways]
    gone = {standing: True for standing in lost}
    while lost:
        behind = lost.pop()
        for standing in ahead.get(behind, []):
            if standing not in gone:
                gone[standing] = True
                lost.append(standing)
    return {standing: rule[standing] for standing in ways if standing not in gone}
