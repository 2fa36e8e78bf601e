"""Standings and ticks: what can be ordered at a standing, what may answer it, and what comes of both."""

from snowsure.cities import arcs_of
from snowsure.errors import BadOrders
from snowsure.kinds import is_integer, is_known, is_row, is_within


def beginning(city, sky):
    """The standing at which everything begins."""
    ploughs = tuple([("at", junction) for _, junction in city[2]])
    return 0, sky[0], (0,) * len(city[1]), ploughs, 0


def closed_streets(city, standing):
    """The names of the streets asked at a standing's time that have more snow than their limit."""
    time = standing[0]
    return tuple([
        street[0]
        for street, units in zip(city[1], standing[2])
        if units > street[5] and any([begin <= time < end for begin, end in street[6]])
    ])


def street_of(city, name):
    """The street of a name, None without one."""
    for street in city[1]:
        if street[0] == name:
            return street
    return None


def far_end(street, junction):
    """Where a street leads to from a junction."""
    return street[2] if street[1] == junction else street[1]


def ticks_through(street, is_work):
    """How many ticks a street takes."""
    return street[4] if is_work else street[3]


# How standings are formed.


def is_standing(city, sky, thing):
    """Whether a thing is formed as a standing."""
    if not is_row(thing, 5, 5):
        return False
    time, state, snow, ploughs, fallen = thing
    day, _, falls = city[3]
    if not is_within(time, 0, day - 1) or not is_known(state, [row[0] for row in sky[1]]):
        return False
    if not is_snow(city, snow) or not is_row(ploughs, len(city[2]), len(city[2])):
        return False
    if not all([is_whereabouts(city, plough) for plough in ploughs]):
        return False
    return is_within(fallen, 0, falls) and fallen == len([plough for plough in ploughs if plough[0] == "down"])


def is_snow(city, thing):
    """Whether a thing is the tuple of the snow on each street."""
    streets = city[1]
    if not is_row(thing, len(streets), len(streets)):
        return False
    return all([is_within(units, 0, street[5] + 1) for street, units in zip(streets, thing)])


def is_whereabouts(city, thing):
    """Whether a thing tells where a plough is."""
    if not is_row(thing, 1, 5) or not isinstance(thing[0], str):
        return False
    if thing[0] == "at":
        return len(thing) == 2 and is_known(thing[1], city[0])
    if thing[0] == "on":
        return len(thing) == 5 and is_ride(city, thing)
    return thing == ("down",)


def is_ride(city, plough):
    """Whether a tuple of five that begins with "on" tells of a plough on a street."""
    _, name, junction, is_work, left = plough
    street = street_of(city, name) if isinstance(name, str) else None
    if street is None or not is_known(junction, street[1:3]) or not isinstance(is_work, bool):
        return False
    return is_within(left, 1 - city[3][1], ticks_through(street, is_work) - 1)


# Orders.


def choices_for(city, plough):
    """All that can be ordered to a plough, which is told by its whereabouts."""
    choices = [None]
    if plough[0] == "at":
        for street in city[1]:
            if plough[1] in street[1:3]:
                choices.append((street[0], False))
                choices.append((street[0], True))
    return choices


def orders_of(city, standing):
    """All orders that can be given at a standing, the first plough's changing last."""
    rows = [()]
    for plough in standing[3]:
        choices = choices_for(city, plough)
        rows = [(*row, choice) for row in rows for choice in choices]
    return rows


def can_be_ordered(city, plough, order):
    """Whether a thing can be ordered to a plough, which is told by its whereabouts."""
    if order is None:
        return True
    if not is_row(order, 2, 2) or not isinstance(order[0], str) or not isinstance(order[1], bool):
        return False
    street = street_of(city, order[0])
    return street is not None and plough[0] == "at" and plough[1] in street[1:3]


def are_orders(city, standing, thing):
    """Whether a thing is orders that can be given at a standing."""
    ploughs = standing[3]
    if not is_row(thing, len(ploughs), len(ploughs)):
        return False
    return all([can_be_ordered(city, plough, order) for plough, order in zip(ploughs, thing)])


# The steps of a tick. They ask nothing, so that they also tell what follows what should not have been.


def set_out(city, plough, order):
    """A plough behind its order and a tick on its street."""
    if order is not None:
        street = street_of(city, order[0])
        is_work = order[1]
        plough = ("on", street[0], far_end(street, plough[1]), is_work, ticks_through(street, is_work))
    if plough[0] == "on":
        return (*plough[:4], plough[4] - 1)
    return plough


def all_set_out(city, standing, orders):
    return tuple([set_out(city, plough, order) for plough, order in zip(standing[3], orders)])


def come_in(ploughs, comes):
    """The ploughs behind the coming of some."""
    return tuple([("at", plough[2]) if here else plough for plough, here in zip(ploughs, comes)])


def cleared(city, snow, ploughs, comes):
    """The snow behind the coming of some ploughs."""
    clear = [plough[1] for plough, here in zip(ploughs, comes) if here and plough[3]]
    return tuple([0 if street[0] in clear else units for street, units in zip(city[1], snow)])


def without(ploughs, number):
    """The ploughs behind the breakdown of the one of a number, None for none."""
    if number is None:
        return ploughs
    return (*ploughs[:number], ("down",), *ploughs[number + 1:])


def snowed(city, snow, streets):
    """The snow behind the fall of a unit on some streets."""
    return tuple([
        min(units + 1, street[5] + 1) if street[0] in streets else units
        for street, units in zip(city[1], snow)
    ])


def next_time(city, time):
    return (time + 1) % city[3][0]


# Answers.


def comings_of(city, plough):
    """Whether a plough that has set out may come: the tuple of what there is to choose."""
    if plough[0] != "on" or plough[4] > 0:
        return (False,)
    if plough[4] > -city[3][1]:
        return (False, True)
    return (True,)


def all_comings(city, ploughs):
    """All that can be told of the coming of ploughs that have set out, the first one's changing last."""
    rows = [()]
    for plough in ploughs:
        choices = comings_of(city, plough)
        rows = [(*row, choice) for row in rows for choice in choices]
    return rows


def breaks_of(city, standing):
    """Which ploughs may break down on the tick behind a standing, None for none ahead of them."""
    choices = [None]
    if standing[4] < city[3][2]:
        for number, plough in enumerate(standing[3]):
            if plough[0] != "down":
                choices.append(number)
    return choices


def answers_of(city, sky, standing, orders):
    """All answers to orders that can be given, arcs changing last, then comes, then breaks."""
    comings = all_comings(city, all_set_out(city, standing, orders))
    breaks = breaks_of(city, standing)
    many = len(arcs_of(sky, standing[1]))
    return [(arc, comes, number) for arc in range(many) for comes in comings for number in breaks]


def is_answer(city, sky, standing, orders, thing):
    """Whether a thing is an answer to orders that can be given."""
    if not is_row(thing, 3, 3):
        return False
    arc, comes, breaks = thing
    if not is_within(arc, 0, len(arcs_of(sky, standing[1])) - 1):
        return False
    ploughs = all_set_out(city, standing, orders)
    if not is_row(comes, len(ploughs), len(ploughs)) or not all([isinstance(here, bool) for here in comes]):
        return False
    if not all([here in comings_of(city, plough) for plough, here in zip(ploughs, comes)]):
        return False
    return (breaks is None or is_integer(breaks)) and breaks in breaks_of(city, standing)


# What follows.


def follow(city, sky, standing, orders, answer):
    """The standing behind orders and their answer."""
    if not are_orders(city, standing, orders):
        raise BadOrders(orders)
    if not is_answer(city, sky, standing, orders, answer):
        raise BadOrders(answer)
    time, state, snow, _, fallen = standing
    arc, comes, breaks = answer
    behind, streets = arcs_of(sky, state)[arc]
    riding = all_set_out(city, standing, orders)
    snow = snowed(city, cleared(city, snow, riding, comes), streets)
    ploughs = without(come_in(riding, comes), breaks)
    return next_time(city, time), behind, snow, ploughs, fallen + (0 if breaks is None else 1)


def followers(city, sky, standing, orders):
    """The pairs of all answers to orders that can be given and what follows them, as answers_of has them."""
    time, state, snow, _, fallen = standing
    later = next_time(city, time)
    riding = all_set_out(city, standing, orders)
    breaks = breaks_of(city, standing)
    ways = []
    for comes in all_comings(city, riding):
        arrived = come_in(riding, comes)
        clear = cleared(city, snow, riding, comes)
        for number in breaks:
            ways.append((comes, number, clear, without(arrived, number), fallen + (0 if number is None else 1)))
    pairs = []
    for arc, (behind, streets) in enumerate(arcs_of(sky, state)):
        for comes, number, clear, ploughs, down in ways:
            pairs.append(((arc, comes, number), (later, behind, snowed(city, clear, streets), ploughs, down)))
    return pairs
