"""What a rule costs in the long run: the greatest mean that any weather can bring about, and what shows it.

A rule is one that keeps the promise, as far as standings can be come to by it.
"""

from math import gcd

from snowsure.kinds import is_integer, is_row
from snowsure.ruled import all_behind, come_to, way_by
from snowsure.world import beginning, followers


def cost_of(standing):
    """How many ploughs are on streets."""
    return len([plough for plough in standing[3] if plough[0] == "on"])


def dearest(city, sky, rule):
    """(mean, chart, lap) for the greatest mean that any weather can bring about for ever."""
    ways = {}
    for standing in come_to(city, sky, rule):
        ways[standing] = all_behind(city, sky, standing, rule[standing])
    dearer = lap_in({standing: ways[standing][0] for standing in ways})
    while dearer is not None:
        lap = dearer
        mean = mean_of(lap)
        chart, dearer = charted(ways, mean)
    way = way_to(ways, beginning(city, sky), lap[0])
    return mean, chart, (answers_along(city, sky, rule, way), answers_along(city, sky, rule, [*lap, lap[0]]))


def mean_of(lap):
    """The mean of the standings of a lap."""
    total = sum([cost_of(standing) for standing in lap])
    common = gcd(total, len(lap))
    return total // common, len(lap) // common


def charted(ways, mean):
    """(chart, None) of a mean, or (None, lap) with a lap that costs more."""
    a, b = mean
    dues = {standing: b * cost_of(standing) - a for standing in ways}
    chart = {standing: 0 for standing in ways}
    choices = {}
    # What is come to late is asked first, so that what it tells is known to those ahead of it.
    standings = list(ways)
    standings.reverse()
    is_raised = True
    while is_raised:
        is_raised = False
        for standing in standings:
            for behind in ways[standing]:
                if chart[standing] < dues[behind] + chart[behind]:
                    chart[standing] = dues[behind] + chart[behind]
                    choices[standing] = behind
                    is_raised = True
        # Each choice raised its standing above what was known: where they lead around, this costs more than the mean.
        lap = lap_in(choices)
        if lap is not None:
            return None, lap
    return chart, None


def lap_in(choices):
    """The list of the standings of a lap along which choices lead, None if they lead around nowhere."""
    seen = {}
    for number, begin in enumerate(choices):
        way = []
        standing = begin
        while standing in choices and standing not in seen:
            seen[standing] = number
            way.append(standing)
            standing = choices[standing]
        if standing in seen and seen[standing] == number:
            return way[way.index(standing):]
    return None


def way_to(ways, first, last):
    """The list of the standings of a way from a first one to a last one."""
    froms = {first: None}
    known = [first]
    done = 0
    while last not in froms:
        standing = known[done]
        done += 1
        for behind in ways[standing]:
            if behind not in froms:
                froms[behind] = standing
                known.append(behind)
    way = []
    standing = last
    while standing is not None:
        way.append(standing)
        standing = froms[standing]
    way.reverse()
    return way


def answers_along(city, sky, rule, standings):
    """The answers that lead from each of some standings to the one behind it."""
    answers = []
    for standing, behind in zip(standings, standings[1:]):
        pairs = followers(city, sky, standing, rule[standing])
        answers.append([answer for answer, found in pairs if found == behind][0])
    return tuple(answers)


# Judges.


def is_mean(thing):
    """Whether a thing is a mean: two numbers without common divisors."""
    if not is_row(thing, 2, 2) or not is_integer(thing[0]) or not is_integer(thing[1]):
        return False
    return thing[1] >= 1 and gcd(thing[0], thing[1]) == 1


def is_chart(city, sky, rule, mean, thing):
    """Whether a thing is a chart of a mean."""
    if not is_mean(mean) or not isinstance(thing, dict):
        return False
    a, b = mean
    standings = come_to(city, sky, rule)
    if not all([standing in thing and is_integer(thing[standing]) for standing in standings]):
        return False
    for standing in standings:
        for behind in all_behind(city, sky, standing, rule[standing]):
            if b * cost_of(behind) + thing[behind] > a + thing[standing]:
                return False
    return True


def is_lap(city, sky, rule, mean, thing):
    """Whether a thing is a lap of a mean."""
    if not is_mean(mean) or not is_row(thing, 2, 2):
        return False
    way, lap = thing
    if not isinstance(way, tuple) or not isinstance(lap, tuple) or not lap:
        return False
    standings = way_by(city, sky, rule, beginning(city, sky), way + lap)
    if standings is None or standings[len(way)] != standings[-1]:
        return False
    a, b = mean
    return b * sum([cost_of(standing) for standing in standings[len(way) + 1:]]) == a * len(lap)
