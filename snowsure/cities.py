"""Cities and the skies over them: what a thing must be to be one."""

from snowsure.errors import BadCity, BadSky
from snowsure.kinds import are_unlike, is_known, is_name, is_row, is_within

MOST_JUNCTIONS = 12
MOST_STREETS = 20
MOST_PLOUGHS = 4
MOST_SPANS = 6
LONGEST_PASS = 9
LONGEST_WORK = 20
GREATEST_LIMIT = 9
LONGEST_DAY = 60
GREATEST_LATE = 5
MOST_STATES = 30
MOST_ARCS = 12


def check_city(thing):
    """Raise BadCity unless a thing is a city."""
    if not is_row(thing, 4, 4):
        raise BadCity("city", "a city is a tuple of junctions, streets, ploughs and rules")
    junctions, streets, ploughs, rules = thing
    check_junctions(junctions)
    check_ploughs(ploughs, junctions)
    check_rules(rules, len(ploughs))
    if not is_row(streets, 0, MOST_STREETS):
        raise BadCity("streets", "streets are a tuple of at most 20")
    for street in streets:
        check_street(street, junctions, rules[0])
    if not are_unlike([row[0] for row in streets + ploughs]):
        raise BadCity("streets", "names of streets and ploughs, all together, are unlike")


def check_junctions(junctions):
    if not is_row(junctions, 1, MOST_JUNCTIONS):
        raise BadCity("junctions", "junctions are a tuple of 1 to 12")
    if not all([is_name(junction) for junction in junctions]):
        raise BadCity("junctions", "a junction is a name")
    if not are_unlike(junctions):
        raise BadCity("junctions", "names of junctions are unlike")


def check_ploughs(ploughs, junctions):
    if not is_row(ploughs, 1, MOST_PLOUGHS):
        raise BadCity("ploughs", "ploughs are a tuple of 1 to 4")
    for plough in ploughs:
        if not is_row(plough, 2, 2) or not is_name(plough[0]):
            raise BadCity("ploughs", "a plough is a tuple of its name and its junction")
        if not is_known(plough[1], junctions):
            raise BadCity(plough[0], "a plough begins at a junction of the city")


def check_rules(rules, many_ploughs):
    if not is_row(rules, 3, 3):
        raise BadCity("rules", "rules are a tuple of day, late and falls")
    day, late, falls = rules
    if not is_within(day, 1, LONGEST_DAY):
        raise BadCity("rules", "a day has 1 to 60 ticks")
    if not is_within(late, 0, GREATEST_LATE):
        raise BadCity("rules", "a ride may be 0 to 5 ticks late")
    if not is_within(falls, 0, many_ploughs):
        raise BadCity("rules", "at most as many ploughs break down as there are")


def check_street(street, junctions, day):
    if not is_row(street, 7, 7) or not is_name(street[0]):
        raise BadCity("streets", "a street is a tuple of its name, two junctions, pass, work, limit and hours")
    name, one, other, passing, work, limit, hours = street
    if not is_known(one, junctions) or not is_known(other, junctions) or one == other:
        raise BadCity(name, "a street is between two unlike junctions of the city")
    if not is_within(passing, 1, LONGEST_PASS):
        raise BadCity(name, "driving through takes 1 to 9 ticks")
    if not is_within(work, passing, LONGEST_WORK):
        raise BadCity(name, "ploughing takes at least as long as driving through, and at most 20 ticks")
    if not is_within(limit, 0, GREATEST_LIMIT):
        raise BadCity(name, "a street bears 0 to 9 units of snow")
    check_hours(name, hours, day)


def check_hours(name, hours, day):
    if not is_row(hours, 0, MOST_SPANS):
        raise BadCity(name, "hours are a tuple of at most 6")
    last = -1
    for span in hours:
        if not is_row(span, 2, 2):
            raise BadCity(name, "hours are tuples of begin and end")
        begin, end = span
        if not is_within(begin, last + 1, day - 1):
            raise BadCity(name, "hours begin within the day, behind the end of those ahead of them")
        if not is_within(end, begin + 1, day):
            raise BadCity(name, "hours end behind their begin, and within the day")
        last = end


def is_city(thing):
    """Whether a thing is a city."""
    try:
        check_city(thing)
    except BadCity:
        return False
    return True


def check_sky(city, thing):
    """Raise BadSky unless a thing is a sky over a city."""
    if not is_row(thing, 2, 2):
        raise BadSky("sky", "a sky is a tuple of its first state and its states")
    first, states = thing
    if not is_row(states, 1, MOST_STATES):
        raise BadSky("sky", "states are a tuple of 1 to 30")
    for state in states:
        if not is_row(state, 2, 2) or not is_name(state[0]):
            raise BadSky("sky", "a state is a tuple of its name and its arcs")
    names = [state[0] for state in states]
    if not are_unlike(names):
        raise BadSky("sky", "names of states are unlike")
    if not is_known(first, names):
        raise BadSky("sky", "the first state is one of the states")
    streets = [street[0] for street in city[1]]
    for name, arcs in states:
        check_arcs(name, arcs, names, streets)


def check_arcs(name, arcs, states, streets):
    if not is_row(arcs, 1, MOST_ARCS):
        raise BadSky(name, "arcs are a tuple of 1 to 12")
    for arc in arcs:
        if not is_row(arc, 2, 2) or not is_known(arc[0], states):
            raise BadSky(name, "an arc is a tuple of the state to which it leads and its streets")
        fallen_on = arc[1]
        if not is_row(fallen_on, 0, len(streets)) or not all([is_known(street, streets) for street in fallen_on]):
            raise BadSky(name, "an arc's streets are a tuple of streets of the city")
        if not are_unlike(fallen_on):
            raise BadSky(name, "an arc's streets are unlike")


def is_sky(city, thing):
    """Whether a thing is a sky over a city."""
    try:
        check_sky(city, thing)
    except BadSky:
        return False
    return True


def arcs_of(sky, state):
    """The arcs of a state of a sky."""
    for name, arcs in sky[1]:
        if name == state:
            return arcs
    return ()
