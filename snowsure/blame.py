"""Who is to blame: what really happened, and what of it wasn't as told."""

from snowsure.cities import arcs_of
from snowsure.deskerrors import BadBook
from snowsure.kinds import are_unlike, is_integer, is_known, is_row, is_within
from snowsure.runs import first_closed
from snowsure.world import all_set_out, are_orders, beginning, cleared, come_in, next_time, snowed, without


def is_event(city, sky, standing, thing):
    """Whether a thing is an event of a standing."""
    if not is_row(thing, 5, 5):
        return False
    orders, arc, streets, comes, broken = thing
    if not are_orders(city, standing, orders) or not is_integer(arc) or not are_streets(city, streets):
        return False
    return are_comings(all_set_out(city, standing, orders), comes) and are_broken(standing[3], broken)


def are_streets(city, thing):
    """Whether a thing is a tuple of unlike names of streets."""
    names = [street[0] for street in city[1]]
    return isinstance(thing, tuple) and all([is_known(name, names) for name in thing]) and are_unlike(thing)


def are_comings(riding, thing):
    """Whether a thing tells for each plough, all having set out, whether it came from a street."""
    if not is_row(thing, len(riding), len(riding)) or not all([isinstance(here, bool) for here in thing]):
        return False
    return all([plough[0] == "on" for plough, here in zip(riding, thing) if here])


def are_broken(ploughs, thing):
    """Whether a thing is a tuple of unlike numbers of ploughs that aren't down."""
    if not isinstance(thing, tuple) or not all([is_within(number, 0, len(ploughs) - 1) for number in thing]):
        return False
    return are_unlike(thing) and all([ploughs[number][0] != "down" for number in thing])


def is_arc(sky, state, arc):
    """Whether a state of a sky has an arc of this number."""
    return 0 <= arc < len(arcs_of(sky, state))


def happened(city, sky, standing, event):
    """The standing behind an event."""
    time, state, snow, _, fallen = standing
    orders, arc, streets, comes, broken = event
    riding = all_set_out(city, standing, orders)
    ploughs = come_in(riding, comes)
    for number in broken:
        ploughs = without(ploughs, number)
    if is_arc(sky, state, arc):
        state, _ = arcs_of(sky, state)[arc]
    snow = snowed(city, cleared(city, snow, riding, comes), streets)
    return next_time(city, time), state, snow, ploughs, fallen + len(broken)


def wrong_with(city, sky, rule, standing, event):
    """The tuple of the words for all that was wrong with an event."""
    orders, arc, streets, comes, broken = event
    _, late, falls = city[3]
    is_told = is_arc(sky, standing[1], arc)
    lefts = [plough[4] if plough[0] == "on" else None for plough in all_set_out(city, standing, orders)]
    came = [left for left, here in zip(lefts, comes) if here]
    stayed = [left for left, here in zip(lefts, comes) if left is not None and not here]
    faults = (
        ("orders", standing not in rule or rule[standing] != orders),
        ("arc", not is_told),
        ("snow", is_told and sorted(streets) != sorted(arcs_of(sky, standing[1])[arc][1])),
        ("early", any([left > 0 for left in came])),
        ("late", any([left <= -late for left in stayed])),
        ("breaks", len(broken) > 1 or (len(broken) == 1 and standing[4] >= falls)),
    )
    return tuple([word for word, is_so in faults if is_so])


def way_of(city, sky, events):
    """The list of the standings of some events, the beginning first."""
    standing = beginning(city, sky)
    standings = [standing]
    for number, event in enumerate(events):
        if not is_event(city, sky, standing, event):
            raise BadBook(number)
        standing = happened(city, sky, standing, event)
        standings.append(standing)
    return standings


def blame(city, sky, rule, events):
    """(tick, streets, faults) for the first closed standing of some events, None without one."""
    way = way_of(city, sky, events)
    found = first_closed(city, way)
    if found is None:
        return None
    tick, streets = found
    faults = []
    for number, event in enumerate(events[:tick]):
        words = wrong_with(city, sky, rule, way[number], event)
        if words:
            faults.append((number, words))
    return tick, streets, tuple(faults)
