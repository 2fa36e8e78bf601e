"""When a street will be cleared under a rule: what is surely promised, and how long it may take.

A rule is one that keeps the promise, as far as standings can be come to by it.
"""

from snowsure.kinds import is_integer, is_row, is_within
from snowsure.ruled import has_orders, leading_there, way_by
from snowsure.world import all_set_out, followers


def waits_at(city, sky, rule, standing, street):
    """The pairs of the answers to a rule on which a street isn't cleared, and what follows."""
    orders = rule[standing]
    riding = all_set_out(city, standing, orders)
    pairs = followers(city, sky, standing, orders)
    return [(answer, behind) for answer, behind in pairs if not is_cleared(riding, answer, street)]


def is_cleared(riding, answer, street):
    """Whether, of ploughs that have set out, one comes that worked on a street."""
    return any([here and plough[1] == street and plough[3] for plough, here in zip(riding, answer[1])])


def ticks_to_clear(city, sky, rule, street):
    """From where a street is surely cleared, and within how many ticks."""
    ways = {}
    for standing in rule:
        if has_orders(city, sky, rule, standing):
            ways[standing] = list({behind: True for _, behind in waits_at(city, sky, rule, standing, street)})
    ahead = leading_there(ways)
    many_left = {standing: len(ways[standing]) for standing in ways}
    known = [standing for standing in ways if not ways[standing]]
    ticks = {standing: 1 for standing in known}
    done = 0
    while done < len(known):
        behind = known[done]
        done += 1
        for standing in ahead.get(behind, []):
            many_left[standing] -= 1
            # They become known in the order of their ticks, so that the last one behind has the most.
            if many_left[standing] == 0:
                ticks[standing] = ticks[behind] + 1
                known.append(standing)
    return ticks


def promised(city, sky, rule, standing, street):
    """Within how many ticks a street is surely cleared from a standing on, None if it isn't."""
    return ticks_to_clear(city, sky, rule, street).get(standing)


def is_promise(city, sky, rule, street, thing):
    """Whether a thing is a dict that shows within how many ticks a street is cleared."""
    if not isinstance(thing, dict):
        return False
    for standing in thing:
        ticks = thing[standing]
        if not has_orders(city, sky, rule, standing) or not is_integer(ticks) or ticks < 1:
            return False
    for standing in thing:
        for _, behind in waits_at(city, sky, rule, standing, street):
            if behind not in thing or thing[behind] >= thing[standing]:
                return False
    return True


# Delays.


def delay_from(city, sky, rule, standing, street):
    """A delay from a standing: with a back if nothing is promised, else with one tick less than is promised."""
    ticks = ticks_to_clear(city, sky, rule, street)
    if standing in ticks:
        return longest_wait(city, sky, rule, standing, street, ticks), None
    numbers = {}
    answers = []
    while standing not in numbers:
        numbers[standing] = len(answers)
        pairs = waits_at(city, sky, rule, standing, street)
        answer, standing = [pair for pair in pairs if pair[1] not in ticks][0]
        answers.append(answer)
    return tuple(answers), numbers[standing]


def longest_wait(city, sky, rule, standing, street, ticks):
    """The answers that put off for longest what is promised."""
    answers = []
    while ticks[standing] > 1:
        pairs = waits_at(city, sky, rule, standing, street)
        least = ticks[standing] - 1
        answer, standing = [pair for pair in pairs if ticks[pair[1]] == least][0]
        answers.append(answer)
    return tuple(answers)


def is_delay(city, sky, rule, standing, street, thing):
    """Whether a thing is a delay from a standing."""
    if not is_row(thing, 2, 2) or not isinstance(thing[0], tuple):
        return False
    answers, back = thing
    standings = way_by(city, sky, rule, standing, answers)
    if standings is None:
        return False
    for begin, answer in zip(standings, answers):
        if is_cleared(all_set_out(city, begin, rule[begin]), answer, street):
            return False
    if back is None:
        return True
    return is_within(back, 0, len(answers) - 1) and standings[back] == standings[-1]
