"""Cities and skies that several tests use, and a maker of small ones by number."""

import functools
import random

from tests import slow

HILL = ("hill", "a", "b", 1, 1, 1, ((0, 1),))
TOWN = (("a", "b"), (HILL,), (("ann", "a"),), (3, 1, 0))
FAIR = ("dry", (("dry", (("dry", ()), ("wet", ("hill",)))), ("wet", (("dry", ()),))))
WORSE = TOWN[:3] + ((3, 2, 0),)
PAIR = TOWN[:2] + ((("ann", "a"), ("bob", "b")), (3, 1, 1))
RING = (
    ("a", "b", "c"),
    (("ab", "a", "b", 2, 2, 0, ()), ("bc", "b", "c", 3, 3, 0, ()), ("ca", "c", "a", 4, 4, 0, ())),
    (("ann", "a"),),
    (1, 0, 0),
)

# The town of the document's later examples, snow at each tick, and a rule that always ploughs.
KEPT = (("a", "b"), (("hill", "a", "b", 1, 1, 2, ((0, 3),)),), (("ann", "a"),), (3, 0, 0))
STORM = ("s", (("s", (("s", ("hill",)),)),))
ALWAYS = {
    (time, "s", (snow,), (("at", end),), 0): (("hill", True),)
    for time, snow, end in [(0, 0, "a"), (1, 1, "b"), (2, 1, "a"), (0, 1, "b"), (1, 1, "a"), (2, 1, "b"), (0, 1, "a")]
}

# Things that are none of whatever is asked for.
OTHER_THINGS = (None, True, False, 0, 1, -1, 7, 2.5, "", "a", "hill", b"a", (), [], {}, [1], {"a": 1}, ((),), ("a",), object())


def with_rules(city, day, late, falls):
    return city[:3] + ((day, late, falls),)


# No snow at all, so that standings are only times, states and where ploughs are.
ROW = ("r0", "a", "b", 1, 1, 9, ())


def clear_sky(states, arcs=2, ahead=0):
    """States each of which leads to itself and the next one; some ahead of them, each come to but once."""
    names = [f"s{number}" for number in range(states)]
    rows = [(names[k], ((names[k], ()), (names[(k + 1) % states], ())) + ((names[k], ()),) * (arcs - 2)) for k in range(states)]
    early = [f"e{number}" for number in range(ahead)]
    for number, name in enumerate(early):
        rows.append((name, (((early + ["s0"])[number + 1], ()),)))
    return (early + names)[0], tuple(rows)


def quiet_town(day, states, streets):
    """A plough that goes to and fro on some streets: day * states * 2 standings, of 1 + 2 * streets orders each."""
    rows = tuple((f"r{number}",) + ROW[1:] for number in range(streets))
    return (("a", "b"), rows, (("ann", "a"),), (day, 0, 0))


def empty_town(day):
    return (("a",), (), (("ann", "a"),), (day, 0, 0))


def small_hours(rng, day):
    marks = sorted(rng.sample(range(day + 1), min(day + 1, rng.choice((2, 2, 4)))))
    spans = [tuple(marks[k:k + 2]) for k in range(0, len(marks) - 1, 2)]
    return tuple(spans)


def small_city(seed):
    """A small city, another one for each seed."""
    rng = random.Random(seed)
    junctions = ("a", "b", "c")[: rng.randint(2, 3)]
    day = rng.randint(1, 4)
    streets = []
    for number in range(rng.randint(1, 3)):
        one, other = rng.sample(junctions, 2)
        passing = rng.randint(1, 2)
        streets.append((f"s{number}", one, other, passing, rng.randint(passing, 3), rng.randint(0, 1), small_hours(rng, day)))
    ploughs = tuple((f"p{number}", rng.choice(junctions)) for number in range(rng.randint(1, 2)))
    return junctions, tuple(streets), ploughs, (day, rng.randint(0, 2), rng.randint(0, len(ploughs)))


def small_sky(city, seed):
    """A small sky over a city, another one for each seed."""
    rng = random.Random(seed)
    names = ("x", "y", "z")[: rng.randint(1, 3)]
    streets = [street[0] for street in city[1]]
    states = []
    for name in names:
        arcs = []
        for _ in range(rng.randint(1, 2)):
            arcs.append((rng.choice(names), tuple(rng.sample(streets, rng.randint(0, len(streets))))))
        states.append((name, tuple(arcs)))
    return rng.choice(names), tuple(states)


def small_worlds(many):
    """Pairs of a small city and a sky over it."""
    pairs = []
    for seed in range(many):
        city = small_city(seed)
        pairs.append((city, small_sky(city, seed + 1000)))
    return pairs


def mild_city(rng):
    """A small city in which much can be promised."""
    junctions = ("a", "b", "c")[: rng.randint(2, 3)]
    day = rng.randint(1, 5)
    streets = []
    for number in range(rng.randint(1, 3)):
        one, other = rng.sample(junctions, 2)
        begin = rng.randrange(day)
        hours = rng.choice(((), ((begin, begin + 1),), ((0, day),)))
        streets.append((f"s{number}", one, other, 1, rng.randint(1, 2), rng.randint(1, 2), hours))
    ploughs = tuple((f"p{number}", rng.choice(junctions)) for number in range(rng.choice((1, 1, 2))))
    return junctions, tuple(streets), ploughs, (day, rng.choice((0, 0, 1)), rng.choice((0, 0, len(ploughs) - 1)))


def mild_sky(city, rng):
    """A small sky over a city with at most one street for each arc, and a rest from time to time."""
    names = ("x", "y", "z")[: rng.randint(2, 3)]
    streets = [street[0] for street in city[1]]
    states = []
    for number, name in enumerate(names):
        arcs = [(rng.choice(names), tuple(rng.sample(streets, rng.randint(0, 1)))) for _ in range(rng.randint(1, 2))]
        states.append((name, tuple(arcs) if number else ((names[1], ()),)))
    return rng.choice(names), tuple(states)


def kept_worlds(many):
    """Tuples of a small city, a sky over it and a drawn rule that keeps the promise; at most 60."""
    return all_kept_worlds()[:many]


@functools.lru_cache(maxsize=None)
def all_kept_worlds():
    found = []
    seed = 0
    while len(found) < 60:
        rng = random.Random(seed)
        seed += 1
        city = mild_city(rng)
        sky = mild_sky(city, rng)
        if slow.reached(city, sky, 500) is not None:
            safe = slow.safe_orders(city, sky)
            if slow.start(city, sky) in safe:
                found.append((city, sky, slow.drawn_rule(city, sky, safe, rng)))
    return tuple(found)
