"""What the document's words say, told a second time, slowly, and without the program."""

from itertools import product


def arcs(sky, state):
    return dict(sky[1])[state]


def start(city, sky):
    return (0, sky[0], tuple(0 for _ in city[1]), tuple(("at", place) for _, place in city[2]), 0)


def closed(city, standing):
    names = []
    for number, street in enumerate(city[1]):
        asked = set()
        for begin, end in street[6]:
            asked |= set(range(begin, end))
        if standing[0] in asked and standing[2][number] > street[5]:
            names.append(street[0])
    return tuple(names)


def orders(city, standing):
    lots = []
    for plough in standing[3]:
        lot = [None]
        if plough[0] == "at":
            for name, one, other, *_ in city[1]:
                if plough[1] == one or plough[1] == other:
                    lot += [(name, False), (name, True)]
        lots.append(lot)
    return list(product(*lots))


def ridden(city, standing, given):
    """The ploughs behind step 1, as lists."""
    streets = {street[0]: street for street in city[1]}
    ploughs = [list(plough) for plough in standing[3]]
    for number, order in enumerate(given):
        if order is not None:
            name, is_work = order
            _, one, other, passing, work, *_ = streets[name]
            to = other if ploughs[number][1] == one else one
            ploughs[number] = ["on", name, to, is_work, work if is_work else passing]
    for plough in ploughs:
        if plough[0] == "on":
            plough[4] -= 1
    return ploughs


def answers(city, sky, standing, given):
    """All answers: whatever might be one is tried."""
    _, late, falls = city[3]
    ploughs = ridden(city, standing, given)
    many = len(ploughs)
    found = []
    for arc in range(len(arcs(sky, standing[1]))):
        for comes in product((False, True), repeat=many):
            for breaks in [None, *range(many)]:
                good = True
                for number in range(many):
                    may = ploughs[number][0] == "on" and ploughs[number][4] <= 0
                    must = may and ploughs[number][4] <= -late
                    if (comes[number] and not may) or (must and not comes[number]):
                        good = False
                if breaks is not None and (standing[4] >= falls or ploughs[breaks][0] == "down"):
                    good = False
                if good:
                    found.append((arc, comes, breaks))
    return found


def behind(city, sky, standing, given, answer):
    arc, comes, breaks = answer
    snow = {street[0]: units for street, units in zip(city[1], standing[2])}
    ploughs = ridden(city, standing, given)
    fallen = standing[4]
    for number, here in enumerate(comes):
        if here:
            _, name, to, is_work, _ = ploughs[number]
            if is_work:
                snow[name] = 0
            ploughs[number] = ["at", to]
    if breaks is not None:
        ploughs[breaks] = ["down"]
        fallen += 1
    state, streets = arcs(sky, standing[1])[arc]
    for name in streets:
        snow[name] += 1
    kept = tuple(min(snow[street[0]], street[5] + 1) for street in city[1])
    time = standing[0] + 1
    if time == city[3][0]:
        time = 0
    return (time, state, kept, tuple(tuple(plough) for plough in ploughs), fallen)


def reached(city, sky, most=None):
    """The set of all standings that can be come to, and how many triples there are; None beyond most standings."""
    seen = {start(city, sky)}
    todo = list(seen)
    triples = 0
    while todo:
        standing = todo.pop()
        if closed(city, standing):
            continue
        for given in orders(city, standing):
            for answer in answers(city, sky, standing, given):
                triples += 1
                after = behind(city, sky, standing, given, answer)
                if after not in seen:
                    seen.add(after)
                    todo.append(after)
        if most is not None and len(seen) > most:
            return None
    return seen, triples


def formed(city, sky):
    """All standings that are formed as such."""
    day, late, falls = city[3]
    places = [("at", junction) for junction in city[0]] + [("down",)]
    for name, one, other, passing, work, *_ in city[1]:
        for to in (one, other):
            places += [("on", name, to, False, left) for left in range(1 - late, passing)]
            places += [("on", name, to, True, left) for left in range(1 - late, work)]
    found = []
    for time in range(day):
        for state, _ in sky[1]:
            for snow in product(*[range(street[5] + 2) for street in city[1]]):
                for ploughs in product(places, repeat=len(city[2])):
                    down = ploughs.count(("down",))
                    if down <= falls:
                        found.append((time, state, snow, ploughs, down))
    return found


def keeps(city, sky, rule):
    """Whether a rule keeps the promise; and the set of the standings that can be come to by it."""
    seen = {start(city, sky)}
    todo = list(seen)
    while todo:
        standing = todo.pop()
        if closed(city, standing) or standing not in rule:
            return False, seen
        given = rule[standing]
        if given not in orders(city, standing):
            return False, seen
        for answer in answers(city, sky, standing, given):
            after = behind(city, sky, standing, given, answer)
            if after not in seen:
                seen.add(after)
                todo.append(after)
    return True, seen


def beats(city, sky, weather):
    """Whether a weather beats all rules; and the set of its standings that can be come to by its answers."""
    seen = {start(city, sky)}
    todo = list(seen)
    if start(city, sky) not in weather:
        return False, seen
    while todo:
        standing = todo.pop()
        if closed(city, standing):
            continue
        rank, replies = weather[standing]
        for given in orders(city, standing):
            if given not in replies or replies[given] not in answers(city, sky, standing, given):
                return False, seen
            after = behind(city, sky, standing, given, replies[given])
            if after not in weather or not 0 <= weather[after][0] < rank:
                return False, seen
            if after not in seen:
                seen.add(after)
                todo.append(after)
    return True, seen


def safe_orders(city, sky):
    """For each standing from which the promise can be kept, the list of the orders with which it can be."""
    left, _ = reached(city, sky)
    left = {standing for standing in left if not closed(city, standing)}
    table = {}
    for standing in left:
        table[standing] = [
            (given, {behind(city, sky, standing, given, answer) for answer in answers(city, sky, standing, given)})
            for given in orders(city, standing)
        ]
    while True:
        lost = [standing for standing in left if not any(after <= left for _, after in table[standing])]
        if not lost:
            return {standing: [given for given, after in table[standing] if after <= left] for standing in left}
        left -= set(lost)


def can_keep(city, sky):
    """Whether the promise can be kept: what is lost is taken out till nothing more is."""
    return start(city, sky) in safe_orders(city, sky)


def drawn_rule(city, sky, safe, rng):
    """A rule that keeps the promise, drawn from all orders with which it is kept; just what can be come to."""
    return rule_by(city, sky, lambda standing: rng.choice(safe[standing]))


def rule_by(city, sky, choose):
    """The rule that has chosen orders at each standing to which it comes."""
    rule = {}
    todo = [start(city, sky)]
    while todo:
        standing = todo.pop()
        if standing not in rule:
            rule[standing] = choose(standing)
            todo += [behind(city, sky, standing, rule[standing], answer) for answer in answers(city, sky, standing, rule[standing])]
    return rule


def under(city, sky, rule):
    """For each standing to which a rule comes, the list of the pairs of an answer and the standing behind it."""
    table = {}
    todo = [start(city, sky)]
    while todo:
        standing = todo.pop()
        if standing not in table:
            given = rule[standing]
            table[standing] = [
                (answer, behind(city, sky, standing, given, answer)) for answer in answers(city, sky, standing, given)
            ]
            todo += [after for _, after in table[standing]]
    return table


def clears(city, standing, given, answer, street):
    """Whether a plough that worked on a street comes with an answer."""
    return any(
        here and plough[0] == "on" and plough[1] == street and plough[3]
        for plough, here in zip(ridden(city, standing, given), answer[1])
    )
