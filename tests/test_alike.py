"""[10] Other names."""

import copy
import unittest

from snowsure.alike import renamed_city, renamed_orders, renamed_rule, renamed_sky, renamed_standing, renamed_weather
from snowsure.cities import is_city, is_sky
from snowsure.errors import TooMany
from snowsure.games import verdict
from snowsure.papers import holds, is_rule, is_weather
from snowsure.runs import first_closed, kept_up, met, run
from snowsure.world import answers_of, beginning, follow, is_standing, orders_of
from tests.samples import FAIR, PAIR, RING, TOWN, WORSE, small_worlds

CITY = (
    ("a", "b", "c"),
    (("ab", "a", "b", 2, 3, 1, ((0, 1), (2, 4))), ("bc", "b", "c", 1, 1, 0, ())),
    (("ann", "a"), ("bob", "b"), ("cat", "c")),
    (5, 2, 1),
)
SKY = ("dry", (("dry", (("dry", ()), ("wet", ("bc", "ab")))), ("wet", (("dry", ("ab",)),))))
STANDINGS = (
    (0, "dry", (0, 0), (("at", "a"), ("at", "b"), ("at", "c")), 0),
    (4, "wet", (2, 1), (("on", "ab", "b", True, 2), ("on", "bc", "c", False, 0), ("down",)), 1),
    (3, "dry", (1, 0), (("on", "ab", "a", False, -1), ("at", "c"), ("on", "bc", "b", True, -1)), 0),
)
NAMES = {
    "a": "left", "b": "mid", "c": "right", "ab": "one", "bc": "two", "ann": "p0", "bob": "p1", "cat": "p2", "dry": "sun", "wet": "snow",
}
KINDS = (("a", "b", "c"), ("ab", "bc"), ("ann", "bob", "cat"), ("dry", "wet"))


def deep(thing, names):
    """Other names for all strings of a thing, whatever they stand for."""
    if isinstance(thing, tuple):
        return tuple(deep(part, names) for part in thing)
    return names.get(thing, thing) if isinstance(thing, str) else thing


def worlds():
    """Small cities and skies with their verdicts, and names for them all, turned round among themselves."""
    for city, sky in small_worlds(60):
        try:
            told = verdict(city, sky)
        except TooMany:
            continue
        rows = [[street[0] for street in city[1]], list(city[0]), [plough[0] for plough in city[2]], [state[0] for state in sky[1]]]
        names = {}
        for number, row in enumerate(rows):
            names.update(zip(row, row[1:] + [f"new{number}"]))
        yield city, sky, told, names


class Names(unittest.TestCase):
    def told(self, wanted, function, thing, names):
        before = copy.deepcopy((thing, names))
        self.assertEqual(function(thing, names), wanted)
        self.assertEqual((thing, names), before)

    def test_all_at_once(self):
        self.told(deep(CITY, NAMES), renamed_city, CITY, NAMES)
        self.told(deep(SKY, NAMES), renamed_sky, SKY, NAMES)
        self.assertTrue(is_city(renamed_city(CITY, NAMES)))
        self.assertTrue(is_sky(renamed_city(CITY, NAMES), renamed_sky(SKY, NAMES)))
        self.assertEqual(renamed_city(CITY, NAMES), (
            ("left", "mid", "right"),
            (("one", "left", "mid", 2, 3, 1, ((0, 1), (2, 4))), ("two", "mid", "right", 1, 1, 0, ())),
            (("p0", "left"), ("p1", "mid"), ("p2", "right")),
            (5, 2, 1),
        ))
        self.assertEqual(
            renamed_sky(SKY, NAMES),
            ("sun", (("sun", (("sun", ()), ("snow", ("two", "one")))), ("snow", (("sun", ("one",)),)))),
        )

    def test_standings(self):
        wanted = (
            (0, "sun", (0, 0), (("at", "left"), ("at", "mid"), ("at", "right")), 0),
            (4, "snow", (2, 1), (("on", "one", "mid", True, 2), ("on", "two", "right", False, 0), ("down",)), 1),
            (3, "sun", (1, 0), (("on", "one", "left", False, -1), ("at", "right"), ("on", "two", "mid", True, -1)), 0),
        )
        for standing, after in zip(STANDINGS, wanted):
            self.assertTrue(is_standing(CITY, SKY, standing))
            self.told(after, renamed_standing, standing, NAMES)

    def test_orders(self):
        self.told((("one", True), None, ("two", False)), renamed_orders, (("ab", True), None, ("bc", False)), NAMES)
        self.told((None, None), renamed_orders, (None, None), NAMES)
        self.told((None,), renamed_orders, (None,), {"None": "a"})

    def test_one_kind_alone(self):
        for kind in KINDS:
            names = {name: NAMES[name] for name in kind}
            self.told(deep(CITY, names), renamed_city, CITY, names)
            self.told(deep(SKY, names), renamed_sky, SKY, names)
            for standing in STANDINGS:
                self.told(deep(standing, names), renamed_standing, standing, names)
            self.told(deep((("ab", True), None), names), renamed_orders, (("ab", True), None), names)

    def test_one_name_alone(self):
        for name in NAMES:
            names = {name: "other", "nobody": "else"}
            self.told(deep(CITY, names), renamed_city, CITY, names)
            self.told(deep(SKY, names), renamed_sky, SKY, names)
            for standing in STANDINGS:
                self.told(deep(standing, names), renamed_standing, standing, names)

    def test_names_that_are_not_in_the_dict_stay(self):
        for names in ({}, {"x": "y"}, {"sun": "dry", "left": "a", "p0": "ann"}):
            self.told(CITY, renamed_city, CITY, names)
            self.told(SKY, renamed_sky, SKY, names)
            for standing in STANDINGS:
                self.told(standing, renamed_standing, standing, names)
            self.told((("ab", True), None), renamed_orders, (("ab", True), None), names)

    def test_names_turned_round(self):
        names = {"a": "b", "b": "a", "ab": "bc", "bc": "ab", "dry": "wet", "wet": "dry"}
        self.told((4, "dry", (2, 1), (("on", "bc", "a", True, 2), ("on", "ab", "c", False, 0), ("down",)), 1), renamed_standing,
                  STANDINGS[1], names)
        self.assertEqual(renamed_city(renamed_city(CITY, names), names), CITY)
        self.assertEqual(renamed_sky(renamed_sky(SKY, names), names), SKY)

    def test_a_name_of_two_kinds_of_things(self):
        city = (("x", "y"), (("y", "x", "y", 1, 1, 1, ()),), (("x", "y"),), (1, 0, 0))
        sky = ("x", (("x", (("x", ("y",)), ("y", ()))), ("y", (("x", ()),))))
        standing = (0, "y", (0,), (("on", "y", "x", True, 0),), 0)
        self.assertTrue(is_city(city) and is_sky(city, sky))
        for names in ({"x": "z"}, {"y": "z"}, {"x": "y", "y": "x"}, {"x": "z", "y": "x"}):
            x, y = names.get("x", "x"), names.get("y", "y")
            self.told(deep(city, names), renamed_city, city, names)
            self.told(deep(sky, names), renamed_sky, sky, names)
            self.told((0, y, (0,), (("on", y, x, True, 0),), 0), renamed_standing, standing, names)
            self.told(((y, True),), renamed_orders, (("y", True),), names)

    def test_the_words_of_whereabouts_are_no_names(self):
        names = {"at": "a1", "on": "o1", "down": "d1"}
        standing = (0, "down", (0,), (("at", "at"), ("on", "on", "at", True, 0), ("down",), ("at", "down")), 1)
        self.told((0, "d1", (0,), (("at", "a1"), ("on", "o1", "a1", True, 0), ("down",), ("at", "d1")), 1), renamed_standing, standing, names)


class Papers(unittest.TestCase):
    def test_a_rule_with_other_names(self):
        rule = verdict(TOWN, FAIR)[1]
        names = {"hill": "mount", "a": "top", "wet": "grey", "ann": "zoe"}
        before = copy.deepcopy((rule, names))
        other = renamed_rule(rule, names)
        self.assertEqual((rule, names), before)
        self.assertIsInstance(other, dict)
        self.assertTrue(is_rule(renamed_city(TOWN, names), renamed_sky(FAIR, names), other))
        self.assertFalse(is_rule(TOWN, FAIR, other))
        self.assertEqual(other, {renamed_standing(standing, names): renamed_orders(rule[standing], names) for standing in rule})

    def test_a_weather_with_other_names(self):
        weather = verdict(WORSE, FAIR)[1]
        names = {"hill": "mount", "a": "top", "wet": "grey", "ann": "zoe"}
        before = copy.deepcopy((weather, names))
        other = renamed_weather(weather, names)
        self.assertEqual((weather, names), before)
        self.assertTrue(is_weather(renamed_city(WORSE, names), renamed_sky(FAIR, names), other))
        self.assertFalse(is_weather(WORSE, FAIR, other))
        for standing, (rank, answers) in weather.items():
            told = other[renamed_standing(standing, names)]
            self.assertIsInstance(told, tuple)
            self.assertEqual(told[0], rank)
            self.assertEqual(told[1], {renamed_orders(orders, names): answer for orders, answer in answers.items()})

    def test_empty_papers(self):
        self.assertEqual((renamed_rule({}, {"a": "b"}), renamed_weather({}, {"a": "b"})), ({}, {}))

    def test_papers_of_verdict(self):
        words = []
        for city, sky, (word, paper), names in worlds():
            words.append(word)
            city_there, sky_there = renamed_city(city, names), renamed_sky(sky, names)
            self.assertTrue(is_city(city_there) and is_sky(city_there, sky_there))
            other = renamed_rule(paper, names) if word == "promised" else renamed_weather(paper, names)
            self.assertTrue(holds(city_there, sky_there, (word, other)))
            self.assertEqual(verdict(city_there, sky_there)[0], word)
        self.assertEqual(set(words), {"promised", "beaten"})

    def test_runs(self):
        for city, sky, (word, paper), names in worlds():
            city_there, sky_there = renamed_city(city, names), renamed_sky(sky, names)
            if word == "promised":
                numbers = (3, 1, 4, 1, 5, 9, 2, 6, 5, 3, 5, 8, 9, 7)
                here = kept_up(city, sky, paper, numbers)
                there = kept_up(city_there, sky_there, renamed_rule(paper, names), numbers)
            else:
                steps = met(city, sky, {}, paper)
                steps_there = met(city_there, sky_there, {}, renamed_weather(paper, names))
                self.assertEqual(steps_there, tuple((renamed_orders(orders, names), answer) for orders, answer in steps))
                here, there = run(city, sky, steps), run(city_there, sky_there, steps_there)
                number, closed = first_closed(city, here)
                self.assertEqual(first_closed(city_there, there), (number, tuple(names[street] for street in closed)))
            self.assertEqual(there, tuple(renamed_standing(standing, names) for standing in here))

    def test_ticks(self):
        for city, sky in ((PAIR, FAIR), (RING, ("s", (("s", (("s", ("ab", "ca")),)),)))):
            names = {"a": "b", "b": "a", "hill": "a1", "ab": "a1", "wet": "c", "s": "d", "ann": "bob", "bob": "ann"}
            city_there, sky_there = renamed_city(city, names), renamed_sky(sky, names)
            standing = beginning(city, sky)
            self.assertEqual(renamed_standing(standing, names), beginning(city_there, sky_there))
            for number in range(40):
                given = orders_of(city, standing)
                orders = given[(number * 7 + 5) % len(given)]
                renamed = renamed_standing(standing, names)
                self.assertEqual(orders_of(city_there, renamed), [renamed_orders(row, names) for row in given])
                answers = answers_of(city, sky, standing, orders)
                self.assertEqual(answers_of(city_there, sky_there, renamed, renamed_orders(orders, names)), answers)
                answer = answers[(number * 5 + 3) % len(answers)]
                standing = follow(city, sky, standing, orders, answer)
                after = follow(city_there, sky_there, renamed, renamed_orders(orders, names), answer)
                self.assertEqual(after, renamed_standing(standing, names))


if __name__ == "__main__":
    unittest.main()
