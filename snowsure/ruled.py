"""What comes of a rule: where its orders lead, whatever is answered."""

from snowsure.world import are_orders, beginning, follow, followers, is_answer, is_standing


def has_orders(city, sky, rule, thing):
    """Whether a thing is a standing at which a rule has orders that can be given."""
    return is_standing(city, sky, thing) and thing in rule and are_orders(city, thing, rule[thing])


def all_behind(city, sky, standing, orders):
    """The standings that may follow orders that can be given, each once."""
    found = {}
    for _, behind in followers(city, sky, standing, orders):
        found[behind] = True
    return list(found)


def come_to(city, sky, rule):
    """The list of the standings to which a rule comes, the beginning first."""
    first = beginning(city, sky)
    standings = [first]
    seen = {first: True}
    done = 0
    while done < len(standings):
        standing = standings[done]
        done += 1
        for behind in all_behind(city, sky, standing, rule[standing]):
            if behind not in seen:
                seen[behind] = True
                standings.append(behind)
    return standings


def way_by(city, sky, rule, standing, answers):
    """The list of the standings from one on by a rule and answers to it, None if an answer can't be."""
    standings = [standing]
    for answer in answers:
        if not has_orders(city, sky, rule, standing) or not is_answer(city, sky, standing, rule[standing], answer):
            return None
        standing = follow(city, sky, standing, rule[standing], answer)
        standings.append(standing)
    return standings


def leading_there(ways):
    """For each standing that follows some others, the list of these; ways tell for each one what follows it."""
    ahead = {}
    for standing in ways:
        for behind in ways[standing]:
            ahead.setdefault(behind, []).append(standing)
    return ahead
