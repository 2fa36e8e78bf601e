"""The most that can be promised: the fewest ploughs, the greatest lateness, the most breakdowns."""

from itertools import combinations

from snowsure.cities import GREATEST_LATE
from snowsure.games import verdict


def with_ploughs(city, choice):
    """A city with the ploughs of some numbers alone."""
    junctions, streets, ploughs, (day, late, falls) = city
    chosen = tuple([ploughs[number] for number in choice])
    return junctions, streets, chosen, (day, late, min(falls, len(chosen)))


def with_rules(city, late, falls):
    """A city with another lateness and another number of breakdowns."""
    return (*city[:3], (city[3][0], late, falls))


def fewest_ploughs(city, sky):
    """(choice, rule, weathers) for the fewest ploughs with which the promise is kept, None if all don't do."""
    many = len(city[2])
    fewer = []
    for size in range(1, many + 1):
        weathers = []
        for choice in combinations(range(many), size):
            word, paper = verdict(with_ploughs(city, choice), sky)
            if word == "promised":
                return choice, paper, tuple(fewer)
            weathers.append((choice, paper))
        fewer = weathers
    return None


def greatest_late(city, sky):
    """(late, rule, weather) for the greatest lateness with which the promise is kept, None if none is."""
    falls = city[3][2]
    return last_promised([with_rules(city, late, falls) for late in range(GREATEST_LATE + 1)], sky)


def greatest_falls(city, sky):
    """(falls, rule, weather) for the most breakdowns with which the promise is kept, None if none is."""
    late = city[3][1]
    return last_promised([with_rules(city, late, falls) for falls in range(len(city[2]) + 1)], sky)


def last_promised(cities, sky):
    """(number, rule, weather) for the last one that is promised of cities that are harder and harder."""
    last = None
    for number, city in enumerate(cities):
        word, paper = verdict(city, sky)
        if word == "beaten":
            return None if last is None else (number - 1, last, paper)
        last = paper
    return len(cities) - 1, last, None
