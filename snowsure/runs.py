"""Runs: what comes of orders and answers, one tick behind the other."""

from snowsure.errors import BadOrders
from snowsure.world import are_orders, beginning, closed_streets, follow, followers


def run(city, sky, steps):
    """The standings of a run by pairs of orders and answers, from the beginning on."""
    standing = beginning(city, sky)
    standings = [standing]
    for orders, answer in steps:
        standing = follow(city, sky, standing, orders, answer)
        standings.append(standing)
    return tuple(standings)


def first_closed(city, standings):
    """The number and the closed streets of the first closed one of some standings, None without one."""
    for number, standing in enumerate(standings):
        closed = closed_streets(city, standing)
        if closed:
            return number, closed
    return None


def met(city, sky, rule, weather):
    """The pairs of a rule's orders and the answers of a weather that beats it, till a standing is closed."""
    idle = (None,) * len(city[2])
    standing = beginning(city, sky)
    steps = []
    while not closed_streets(city, standing):
        orders = rule[standing] if standing in rule else idle
        _, answers = weather[standing]
        # Orders that can't be given are asked for first, as they need not be what a dict can look up.
        if not are_orders(city, standing, orders) or orders not in answers:
            raise BadOrders(orders)
        steps.append((orders, answers[orders]))
        standing = follow(city, sky, standing, orders, answers[orders])
    return tuple(steps)


def kept_up(city, sky, rule, answers):
    """The standings of a run by a rule that keeps the promise, answers being told by their numbers."""
    standing = beginning(city, sky)
    standings = [standing]
    for number in answers:
        pairs = followers(city, sky, standing, rule[standing])
        _, standing = pairs[number % len(pairs)]
        standings.append(standing)
    return tuple(standings)
