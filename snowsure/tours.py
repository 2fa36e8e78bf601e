"""Tours by the clock: orders given again and again without looking at the snow, or what shows that none will do.

All of this is of cities without lateness and breakdowns, so that it is known where the ploughs are.
"""

from snowsure.cities import arcs_of
from snowsure.errors import BadOrders
from snowsure.games import attraction, number_in
from snowsure.kinds import is_integer, is_row
from snowsure.world import all_comings, all_set_out, are_orders, beginning, cleared, closed_streets, come_in
from snowsure.world import is_standing, next_time, orders_of, snowed

MOST_BELIEFS = 400


def first_belief(city, sky):
    """The belief at which everything begins."""
    time, state, snow, ploughs, _ = beginning(city, sky)
    return time, ploughs, ((state, snow),)


def standing_in(belief, case):
    """The standing that a belief's case tells of."""
    time, ploughs, _ = belief
    state, snow = case
    return time, state, snow, ploughs, 0


def is_shut(city, belief):
    """Whether some street may be closed."""
    return any([closed_streets(city, standing_in(belief, case)) for case in belief[2]])


def can_be_given(city, belief, orders):
    """Whether orders can be given at a belief: in all of its cases the ploughs are at the same places."""
    return are_orders(city, standing_in(belief, belief[2][0]), orders)


def belief_behind(city, sky, belief, orders):
    """The belief behind orders."""
    if not can_be_given(city, belief, orders):
        raise BadOrders(orders)
    time, _, cases = belief
    riding = all_set_out(city, standing_in(belief, cases[0]), orders)
    # Where nobody is late there is but one way of coming.
    comes = all_comings(city, riding)[0]
    found = {}
    for state, snow in cases:
        clear = cleared(city, snow, riding, comes)
        for behind, streets in arcs_of(sky, state):
            found[behind, snowed(city, clear, streets)] = True
    return next_time(city, time), come_in(riding, comes), tuple(sorted(found))


# Tours.


def is_tour(city, sky, first, again):
    """Whether two things are the orders of a tour."""
    if not isinstance(first, tuple) or not isinstance(again, tuple) or not again:
        return False
    begin = belief_behind_all(city, sky, first_belief(city, sky), first)
    # The last belief is none but this one, which is asked with the first orders that are given again.
    return begin is not None and belief_behind_all(city, sky, begin, again) == begin


def belief_behind_all(city, sky, belief, rows):
    """The belief behind some orders, None if they can't be given or a belief ahead of any of them is shut."""
    for orders in rows:
        if is_shut(city, belief) or not can_be_given(city, belief, orders):
            return None
        belief = belief_behind(city, sky, belief, orders)
    return belief


def tour_for(city, sky):
    """("tour", first, again), or ("none", ranks) if there is none."""
    beliefs, moves = beliefs_of(city, sky)
    # As in a game in which the weather has but one answer to all orders.
    ranks, _ = attraction([[(orders, [(None, behind)]) for orders, behind in rows] for rows in moves])
    if 0 in ranks:
        return "none", {beliefs[number]: ranks[number] for number in ranks}
    first, again = way_beside(moves, ranks)
    return "tour", first, again


def beliefs_of(city, sky):
    """The beliefs that can be come to, and for each its moves: pairs of orders and the number of the belief behind.

    A shut belief has no moves, any other one has some.
    """
    first = first_belief(city, sky)
    beliefs = [first]
    numbers = {first: 0}
    moves = []
    while len(moves) < len(beliefs):
        belief = beliefs[len(moves)]
        rows = []
        if not is_shut(city, belief):
            for orders in orders_of(city, standing_in(belief, belief[2][0])):
                behind = belief_behind(city, sky, belief, orders)
                rows.append((orders, number_in(behind, beliefs, numbers, MOST_BELIEFS)))
        moves.append(rows)
    return beliefs, moves


def way_beside(moves, ranks):
    """The orders of a way from the first belief that keeps to those without ranks, parted where it comes round."""
    number = 0
    ticks = {}
    way = []
    while number not in ticks:
        ticks[number] = len(way)
        orders, number = [move for move in moves[number] if move[1] not in ranks][0]
        way.append(orders)
    return tuple(way[:ticks[number]]), tuple(way[ticks[number]:])


def is_tourless(city, sky, ranks):
    """Whether a thing is ranks that show that there is no tour."""
    if not isinstance(ranks, dict) or first_belief(city, sky) not in ranks:
        return False
    for belief in ranks:
        if not is_belief(city, sky, belief) or not is_sinking(city, sky, ranks, belief):
            return False
    return True


def is_belief(city, sky, thing):
    """Whether a thing is formed as a belief."""
    if not is_row(thing, 3, 3) or not isinstance(thing[2], tuple) or not thing[2]:
        return False
    cases = thing[2]
    if not all([is_row(case, 2, 2) and is_standing(city, sky, standing_in(thing, case)) for case in cases]):
        return False
    return list(cases) == sorted(set(cases))


def is_sinking(city, sky, ranks, belief):
    """Whether a belief's rank is one, and, unless it is shut, all that follow it have lesser ones."""
    rank = ranks[belief]
    if not is_integer(rank) or rank < 0:
        return False
    if is_shut(city, belief):
        return True
    for orders in orders_of(city, standing_in(belief, belief[2][0])):
        behind = belief_behind(city, sky, belief, orders)
        if behind not in ranks or not is_integer(ranks[behind]) or ranks[behind] >= rank:
            return False
    return True
