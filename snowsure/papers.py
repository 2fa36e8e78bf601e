"""Judges of papers: they go through what a paper itself tells, and trust nobody who made it."""

from snowsure.errors import BadPaper
from snowsure.kinds import is_integer, is_row
from snowsure.world import are_orders, beginning, closed_streets, follow, followers, is_answer, orders_of


def check_rule(city, sky, rule):
    """Raise BadPaper unless a thing is a rule that keeps the promise."""
    if not isinstance(rule, dict):
        raise BadPaper("a rule is a dict")
    first = beginning(city, sky)
    known = [first]
    seen = {first: True}
    while known:
        standing = known.pop()
        check_orders(city, rule, standing)
        for _, behind in followers(city, sky, standing, rule[standing]):
            if behind not in seen:
                seen[behind] = True
                known.append(behind)


def check_orders(city, rule, standing):
    """Raise BadPaper unless a standing is open and a rule has orders at it that can be given."""
    if closed_streets(city, standing):
        raise BadPaper("a closed standing can be come to")
    if standing not in rule:
        raise BadPaper("a standing that can be come to lacks")
    if not are_orders(city, standing, rule[standing]):
        raise BadPaper("orders can't be given")


def check_weather(city, sky, weather):
    """Raise BadPaper unless a thing is a weather that beats all rules."""
    if not isinstance(weather, dict):
        raise BadPaper("a weather is a dict")
    first = beginning(city, sky)
    rank_in(weather, first)
    known = [first]
    seen = {first: True}
    while known:
        standing = known.pop()
        if not closed_streets(city, standing):
            for behind in replies_in(city, sky, weather, standing):
                if behind not in seen:
                    seen[behind] = True
                    known.append(behind)


def rank_in(weather, standing):
    """The rank that a weather has for a standing; BadPaper if it has none."""
    if standing not in weather:
        raise BadPaper("a standing that can be come to lacks")
    told = weather[standing]
    if not is_row(told, 2, 2):
        raise BadPaper("a weather has a pair of rank and answers for each standing")
    rank = told[0]
    if not is_integer(rank) or rank < 0:
        raise BadPaper("a rank is an integer from 0 on")
    return rank


def replies_in(city, sky, weather, standing):
    """What follows a weather's answers to all orders at a standing; BadPaper if they don't do."""
    rank, answers = weather[standing]
    if not isinstance(answers, dict):
        raise BadPaper("answers are a dict")
    replies = []
    for orders in orders_of(city, standing):
        if orders not in answers:
            raise BadPaper("orders are not answered")
        if not is_answer(city, sky, standing, orders, answers[orders]):
            raise BadPaper("an answer can't be")
        behind = follow(city, sky, standing, orders, answers[orders])
        if rank_in(weather, behind) >= rank:
            raise BadPaper("an answer leads to no lesser rank")
        replies.append(behind)
    return replies


def is_rule(city, sky, rule):
    """Whether a thing is a rule that keeps the promise."""
    try:
        check_rule(city, sky, rule)
    except BadPaper:
        return False
    return True


def is_weather(city, sky, weather):
    """Whether a thing is a weather that beats all rules."""
    try:
        check_weather(city, sky, weather)
    except BadPaper:
        return False
    return True


def holds(city, sky, told):
    """Whether a thing is a verdict with a paper that shows it."""
    if not is_row(told, 2, 2) or not isinstance(told[0], str):
        return False
    word, paper = told
    if word == "promised":
        return is_rule(city, sky, paper)
    return word == "beaten" and is_weather(city, sky, paper)
