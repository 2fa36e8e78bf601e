"""Forecasts: skies of which the service knows some ticks ahead what falls."""

from snowsure.cities import MOST_ARCS, MOST_STATES
from snowsure.errors import TooMany
from snowsure.games import number_in, verdict


def told_ahead(sky):
    """A sky in which, at each standing but the beginning, it is known which arc of a sky comes next."""
    arcs = dict(sky[1])
    # A state is a pair of one of the sky's and the number of its arc that is told; at the first one none is.
    first = (sky[0], None)
    pairs = [first]
    numbers = {first: 0}
    states = []
    while len(states) < len(pairs):
        state, told = pairs[len(states)]
        fallen = arcs[state] if told is None else (arcs[state][told],)
        rows = arcs_ahead(arcs, fallen, pairs, numbers)
        if len(rows) > MOST_ARCS:
            raise TooMany(MOST_ARCS)
        states.append((name_of(len(states)), rows))
    return name_of(0), tuple(states)


def arcs_ahead(arcs, fallen, pairs, numbers):
    """Some arcs, each once for each arc of the state behind that may be told next."""
    rows = []
    for behind, streets in fallen:
        for told in range(len(arcs[behind])):
            number = number_in((behind, told), pairs, numbers, MOST_STATES)
            rows.append((name_of(number), streets))
    return tuple(rows)


def name_of(number):
    """A state's name: it doesn't grow with each tick that is told ahead."""
    return f"f{number}"


def with_forecast(sky, ticks):
    """A sky of which so many ticks ahead are known."""
    for _ in range(ticks):
        sky = told_ahead(sky)
    return sky


def least_forecast(city, sky, most):
    """(ticks, rule, weather) for the fewest ticks ahead with which the promise is kept, None if most don't do."""
    weather = None
    for ticks in range(most + 1):
        # No further ahead than is needed, as that may be too many.
        if ticks > 0:
            sky = told_ahead(sky)
        word, paper = verdict(city, sky)
        if word == "promised":
            return ticks, paper, weather
        weather = paper
    return None
