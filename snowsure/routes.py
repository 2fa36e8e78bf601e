"""Round trips: lanes worked once each from home and back, and what shows that none drives less empty."""

from heapq import heappop, heappush

from snowsure.kinds import is_integer, is_row


def lanes_of(city):
    """The dict of all lanes to where they are from, where they lead, and their pass."""
    lanes = {}
    for street in city[1]:
        name, one, other, passing = street[:4]
        lanes[name, one] = (one, other, passing)
        lanes[name, other] = (other, one, passing)
    return lanes


# Trips.


def is_trip(city, home, lanes, trip):
    """Whether a thing is a trip from home and back on which lanes are worked once each, and no others."""
    if not isinstance(trip, tuple):
        return False
    ways = lanes_of(city)
    here = home
    worked = []
    for step in trip:
        if not is_step(ways, here, step):
            return False
        street, junction, is_work = step
        if is_work:
            worked.append((street, junction))
        here = ways[street, junction][1]
    return here == home and sorted(worked) == sorted(lanes)


def is_step(ways, here, thing):
    """Whether a thing is a step from a junction."""
    if not is_row(thing, 3, 3):
        return False
    street, junction, is_work = thing
    if not isinstance(street, str) or junction != here or not isinstance(is_work, bool):
        return False
    return (street, here) in ways


def empty_way(city, trip):
    """The sum of the passes of a trip's steps that aren't worked."""
    ways = lanes_of(city)
    return sum([ways[street, junction][2] for street, junction, is_work in trip if not is_work])


def balance_of(city, lanes):
    """The dict of all junctions to how many more lanes lead there than from there."""
    ways = lanes_of(city)
    balance = {junction: 0 for junction in city[0]}
    for lane in lanes:
        start, end, _ = ways[lane]
        balance[start] -= 1
        balance[end] += 1
    return balance


def hang_together(city, home, lanes):
    """Whether all lanes can be come to from home along them, either way round."""
    ways = lanes_of(city)
    ends = [ways[lane][:2] for lane in lanes]
    known = [home]
    seen = {home: True}
    while known:
        here = known.pop()
        for one, other in ends:
            if here == one or here == other:
                there = other if here == one else one
                if there not in seen:
                    seen[there] = True
                    known.append(there)
    return all([one in seen for one, _ in ends])


# Lanes that hang together with home: what lacks to the balance is a flow of least cost.


def round_trip(city, home, lanes):
    """A trip with the least empty way for lanes that hang together with home, and prices that show it."""
    flow = least_flow(city, lanes)
    steps = [(street, junction, True) for street, junction in lanes]
    for street, junction in flow:
        steps += [(street, junction, False)] * flow[street, junction]
    everywhere = {junction: 0 for junction in city[0]}
    prices, _ = cheapest(moves_beside(city, flow), everywhere)
    return tour_through(city, home, steps), prices


def least_flow(city, lanes):
    """How often to pass each lane, so that as many lead to each junction as from it, at the least cost.

    Each unit goes the cheapest way that is left by the ones ahead of it, which may be taken back; this keeps the
    whole the cheapest for what it carries.
    """
    flow = {lane: 0 for lane in lanes_of(city)}
    over = balance_of(city, lanes)
    while any([over[junction] > 0 for junction in city[0]]):
        source = min([junction for junction in city[0] if over[junction] > 0])
        distances, came = cheapest(moves_beside(city, flow), {source: 0})
        here = min([junction for junction in distances if over[junction] < 0])
        over[source] -= 1
        over[here] += 1
        while here != source:
            here, lane, change = came[here]
            flow[lane] += change
    return flow


def moves_beside(city, flow):
    """What a unit more can use: (from, to, cost, lane, change), each lane, and backwards each that has a flow."""
    ways = lanes_of(city)
    moves = []
    for lane in ways:
        start, end, passing = ways[lane]
        moves.append((start, end, passing, lane, 1))
        if flow[lane] > 0:
            moves.append((end, start, -passing, lane, -1))
    return moves


def cheapest(moves, starts):
    """The least costs to junctions from some with their costs, and the (from, lane, change) by which each is."""
    costs = dict(starts)
    came = {}
    changed = True
    while changed:
        changed = False
        for start, end, cost, lane, change in moves:
            if start in costs and (end not in costs or costs[start] + cost < costs[end]):
                costs[end] = costs[start] + cost
                came[end] = (start, lane, change)
                changed = True
    return costs, came


def tour_through(city, home, steps):
    """A closed way from home through all steps, as many of which lead to each junction as from it."""
    ways = lanes_of(city)
    leaving = {junction: [] for junction in city[0]}
    for step in steps:
        leaving[step[1]].append(step)
    trail = [(home, None)]
    tour = []
    while trail:
        here, came_by = trail[-1]
        if leaving[here]:
            step = leaving[here].pop()
            trail.append((ways[step[:2]][1], step))
        else:
            trail.pop()
            if came_by is not None:
                tour.append(came_by)
    return tuple(tour[::-1])


def is_priced(city, home, lanes, trip, prices):
    """Whether a trip is one for lanes, and prices are such that none has a lesser empty way."""
    if not is_trip(city, home, lanes, trip) or not isinstance(prices, dict):
        return False
    if len(prices) != len(city[0]) or not all([junction in prices for junction in city[0]]):
        return False
    if not all([is_integer(prices[junction]) for junction in city[0]]):
        return False
    ways = lanes_of(city)
    if any([prices[end] - prices[start] > passing for start, end, passing in ways.values()]):
        return False
    balance = balance_of(city, lanes)
    return sum([-balance[junction] * prices[junction] for junction in city[0]]) == empty_way(city, trip)


# Any few lanes: all states are gone through.


def any_trip(city, home, lanes):
    """A trip with the least empty way for a few lanes, and a table that shows it; None if there is no trip."""
    first = ((), home)
    table = {first: 0}
    came = {}
    queue = [(0, first)]
    while queue:
        cost, state = heappop(queue)
        if cost == table[state]:
            for step, behind in steps_behind(city, lanes, state):
                total = cost + empty_way(city, (step,))
                if behind not in table or total < table[behind]:
                    table[behind] = total
                    came[behind] = (state, step)
                    heappush(queue, (total, behind))
    end = (tuple(sorted(lanes)), home)
    if end not in table:
        return None
    return trip_to(came, first, end), table


def steps_behind(city, lanes, state):
    """The pairs of the steps from a state and the states behind them."""
    done, here = state
    ways = lanes_of(city)
    pairs = []
    for lane in ways:
        start, end, _ = ways[lane]
        if start == here:
            pairs.append(((*lane, False), (done, end)))
            if lane in lanes and lane not in done:
                pairs.append(((*lane, True), (tuple(sorted([*done, lane])), end)))
    return pairs


def trip_to(came, first, end):
    """The steps by which a state was come to from the first one."""
    steps = []
    while end != first:
        end, step = came[end]
        steps.append(step)
    return tuple(steps[::-1])


def is_tabled(city, home, lanes, trip, table):
    """Whether a trip is one for lanes, and a table is such that none has a lesser empty way."""
    if not is_trip(city, home, lanes, trip) or not is_table(city, lanes, table):
        return False
    first = ((), home)
    if first not in table or table[first] != 0:
        return False
    for state in table:
        for step, behind in steps_behind(city, lanes, state):
            if behind not in table or table[behind] > table[state] + empty_way(city, (step,)):
                return False
    return table[tuple(sorted(lanes)), home] == empty_way(city, trip)


def is_table(city, lanes, thing):
    """Whether a thing is a dict of states to integers."""
    if not isinstance(thing, dict):
        return False
    return all([is_state(city, lanes, state) and is_integer(thing[state]) for state in thing])


def is_state(city, lanes, thing):
    """Whether a thing is a pair of the ascending tuple of the lanes worked and a junction."""
    if not is_row(thing, 2, 2) or not is_row(thing[0], 0, len(lanes)):
        return False
    done, here = thing
    return list(done) == [lane for lane in sorted(lanes) if lane in done] and here in city[0]
