"""Verdicts: whether the promise can be kept, and the rule or the weather that shows it."""

from snowsure.cities import arcs_of
from snowsure.errors import TooMany
from snowsure.world import beginning, breaks_of, choices_for, closed_streets, comings_of
from snowsure.world import followers, orders_of, set_out

MOST_STANDINGS = 1000
MOST_TRIPLES = 40000


def verdict(city, sky):
    """("promised", rule) or ("beaten", weather), with just the standings that can be come to by it."""
    standings, moves = game_of(city, sky)
    ranks, replies = attraction(moves)
    if 0 in ranks:
        return "beaten", weather_of(standings, moves, ranks, replies)
    return "promised", rule_of(standings, moves, replies)


def standings_of(city, sky):
    """The ascending list of the standings that can be come to, nothing being looked at behind a closed one."""
    standings, _ = game_of(city, sky)
    return sorted(standings)


def game_of(city, sky):
    """The standings that can be come to, and for each its moves: a list of orders and their answers.

    Answers are pairs of an answer and the number of the standing behind. A closed standing has no moves, any
    other one has some, as idle orders can always be given.
    """
    first = beginning(city, sky)
    standings = [first]
    numbers = {first: 0}
    moves = []
    triples = 0
    while len(moves) < len(standings):
        standing = standings[len(moves)]
        rows = []
        if not closed_streets(city, standing):
            # Counted ahead, as there may be millions that are never to be listed.
            triples += triples_at(city, sky, standing)
            if triples > MOST_TRIPLES:
                raise TooMany(MOST_STANDINGS)
            for orders in orders_of(city, standing):
                answers = []
                for answer, behind in followers(city, sky, standing, orders):
                    answers.append((answer, number_in(behind, standings, numbers, MOST_STANDINGS)))
                rows.append((orders, answers))
        moves.append(rows)
    return standings, moves


def triples_at(city, sky, standing):
    """How many triples of a standing, orders and an answer there are."""
    many = len(arcs_of(sky, standing[1])) * len(breaks_of(city, standing))
    for plough in standing[3]:
        riding = [set_out(city, plough, order) for order in choices_for(city, plough)]
        many *= sum([len(comings_of(city, ride)) for ride in riding])
    return many


def number_in(thing, known, numbers, most):
    """The number of a thing among at most so many that are known; it is added to them if it is new."""
    if thing not in numbers:
        if len(known) == most:
            raise TooMany(most)
        numbers[thing] = len(known)
        known.append(thing)
    return numbers[thing]


def attraction(moves):
    """From where the weather can bring about a closed standing, and how.

    Ranks are a dict from the numbers of these standings to within how many ticks; replies a dict from pairs of a
    standing's number and that of orders, to the answer to these and the number of the standing behind.
    """
    leads = leads_to(moves)
    open_moves = [len(rows) for rows in moves]
    reached = [number for number, rows in enumerate(moves) if not rows]
    ranks = {number: 0 for number in reached}
    replies = {}
    done = 0
    while done < len(reached):
        behind = reached[done]
        done += 1
        for number, which, answer in leads[behind]:
            if (number, which) not in replies:
                replies[number, which] = (answer, behind)
                open_moves[number] -= 1
                if open_moves[number] == 0:
                    ranks[number] = ranks[behind] + 1
                    reached.append(number)
    return ranks, replies


def leads_to(moves):
    """For each standing, from where, by which orders and which answer it is come to."""
    leads = [[] for _ in moves]
    for number, rows in enumerate(moves):
        for which, (_, answers) in enumerate(rows):
            for answer, behind in answers:
                leads[behind].append((number, which, answer))
    return leads


def rule_of(standings, moves, replies):
    """The rule of the first orders at each standing that the weather has no reply to."""
    rule = {}
    known = [0]
    seen = {0: True}
    while known:
        number = known.pop()
        which = min([k for k in range(len(moves[number])) if (number, k) not in replies])
        orders, answers = moves[number][which]
        rule[standings[number]] = orders
        for _, behind in answers:
            if behind not in seen:
                seen[behind] = True
                known.append(behind)
    return rule


def weather_of(standings, moves, ranks, replies):
    """The weather of the replies, from the beginning on."""
    weather = {}
    known = [0]
    seen = {0: True}
    while known:
        number = known.pop()
        answers = {}
        for which, (orders, _) in enumerate(moves[number]):
            answer, behind = replies[number, which]
            answers[orders] = answer
            if behind not in seen:
                seen[behind] = True
                known.append(behind)
        weather[standings[number]] = (ranks[number], answers)
    return weather
