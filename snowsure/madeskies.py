"""Skies made: out of other ones, with a notice, both of two, without snow on some streets; and the two extreme ones."""

from snowsure.errors import BadSky


def sky_from(first, arcs):
    """The sky of those states that can be come to from the first one, with names of their own.

    Arcs are a dict from whatever stands for a state to a list of pairs of another such thing and streets. BadSky if
    it can come to a state without arcs.
    """
    things = [first]
    names = {first: "m0"}
    states = []
    while len(states) < len(things):
        thing = things[len(states)]
        rows = []
        for behind, streets in arcs[thing]:
            if behind not in names:
                names[behind] = f"m{len(things)}"
                things.append(behind)
            rows.append((names[behind], streets))
        if not rows:
            raise BadSky(names[thing], "none of its arcs counts")
        states.append((names[thing], tuple(rows)))
    return names[first], tuple(states)


def noticed_sky(sky, notice):
    """A sky of which on the next ticks only arcs count with all their streets among those of the tick's notice."""
    first, states = sky
    last = len(notice)
    # A state is told with how many ticks of the notice are over.
    arcs = {(last, state): [((last, behind), streets) for behind, streets in rows] for state, rows in states}
    for tick, noticed in enumerate(notice):
        for state, rows in states:
            arcs[tick, state] = [((tick + 1, behind), streets) for behind, streets in rows if are_in(streets, noticed)]
    return sky_from((0, first), arcs)


def are_in(streets, others):
    return all([street in others for street in streets])


def either_sky(one, other):
    """A sky that does what the one or the other does, from the first tick on."""
    # A state is told with whose it is; ahead of the first tick it is nobody's yet.
    arcs = {None: []}
    for whose, sky in enumerate((one, other)):
        for state, rows in sky[1]:
            arcs[whose, state] = [((whose, behind), streets) for behind, streets in rows]
        arcs[None] += arcs[whose, sky[0]]
    return sky_from(None, arcs)


def spared_sky(sky, spared):
    """A sky with no snow on some streets."""
    first, states = sky
    return first, tuple([(state, arcs_without(arcs, spared)) for state, arcs in states])


def arcs_without(arcs, spared):
    """Arcs without some streets."""
    return tuple([
        (behind, tuple([street for street in streets if street not in spared]))
        for behind, streets in arcs
    ])


def calm_sky():
    """A sky without snow."""
    return "calm", (("calm", (("calm", ()),)),)


def worst_sky(city):
    """A sky with snow on all streets at each tick."""
    return "storm", (("storm", (("storm", tuple([street[0] for street in city[1]])),)),)
