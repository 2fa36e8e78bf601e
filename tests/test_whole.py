"""[1], [2], [27] What is said of the whole program."""

import copy
import importlib
import random
import unittest

from snowsure.blame import blame, way_of, wrong_with
from snowsure.carrying import carried_rule, kept_part
from snowsure.citytexts import city_text
from snowsure.costs import cost_of, dearest
from snowsure.desks import Desk
from snowsure.errors import SnowError, TooMany
from snowsure.fleet import cards_for, driven_by_cards, ever_closed
from snowsure.games import verdict
from snowsure.madeskies import calm_sky, either_sky
from snowsure.papers import holds, is_rule, is_weather
from snowsure.promises import delay_from, ticks_to_clear
from snowsure.routes import any_trip, round_trip
from snowsure.runs import first_closed, met, run
from snowsure.skies import compared
from snowsure.tours import first_belief
from snowsure.world import beginning
from tests import slow
from tests.samples import FAIR, TOWN, WORSE, kept_worlds, mild_city, mild_sky, small_worlds, with_rules
from tests.test_interface import FUNCTIONS


def verdicts():
    """Tuples of a drawn small city, its sky and the verdict over them, as many as can be gone through."""
    worlds = small_worlds(120)
    for seed in range(120):
        rng = random.Random(seed)
        city = mild_city(rng)
        worlds.append((city, mild_sky(city, rng)))
    found = []
    for city, sky in worlds:
        try:
            found.append((city, sky, verdict(city, sky)))
        except TooMany:
            pass
    return found


VERDICTS = verdicts()


def drawn_answers(city, sky, rule, many, rng):
    """Answers to a rule, drawn."""
    standing = slow.start(city, sky)
    answers = []
    for _ in range(many):
        answers.append(rng.choice(slow.answers(city, sky, standing, rule[standing])))
        standing = slow.behind(city, sky, standing, rule[standing], answers[-1])
    return answers


class Guarantee(unittest.TestCase):
    def test_either_or(self):
        words = {"promised": 0, "beaten": 0}
        for city, sky, told in VERDICTS:
            word, paper = told
            words[word] += 1
            self.assertTrue(holds(city, sky, told))
            self.assertEqual(is_rule(city, sky, paper), word == "promised")
            self.assertEqual(is_weather(city, sky, paper), word == "beaten")
            self.assertFalse(holds(city, sky, ("beaten" if word == "promised" else "promised", paper)))
        self.assertGreater(min(words.values()), 50)

    def test_by_a_judge_of_the_tests_own(self):
        for city, sky, (word, paper) in VERDICTS:
            if len(paper) < 150:
                judged, seen = (slow.keeps if word == "promised" else slow.beats)(city, sky, paper)
                self.assertTrue(judged)
                self.assertEqual(set(paper), seen)

    def test_for_ever_whatever_falls(self):
        rng = random.Random(1)
        for city, sky, (word, rule) in VERDICTS:
            if word == "promised":
                answers = drawn_answers(city, sky, rule, 60, rng)
                standing = slow.start(city, sky)
                for answer in answers:
                    standing = slow.behind(city, sky, standing, rule[standing], answer)
                    self.assertEqual(slow.closed(city, standing), ())

    def test_within_a_told_number_of_ticks(self):
        rng = random.Random(2)
        for city, sky, (word, weather) in VERDICTS:
            if word == "beaten":
                first = beginning(city, sky)
                whims = {standing: rng.choice(slow.orders(city, standing)) for standing in weather}
                for rule in ({}, whims):
                    steps = met(city, sky, rule, weather)
                    number, streets = first_closed(city, run(city, sky, steps))
                    self.assertEqual(number, len(steps))
                    self.assertLessEqual(number, weather[first][0])
                    self.assertNotEqual(streets, ())

    def test_the_town(self):
        self.assertEqual((verdict(TOWN, FAIR)[0], verdict(WORSE, FAIR)[0]), ("promised", "beaten"))
        for late in range(2, 6):
            self.assertEqual(verdict(with_rules(TOWN, 3, late, 0), FAIR)[0], "beaten")


def calls_in(city, sky, rule):
    """All functions of the interface, each with arguments, by their modules and names."""
    start = beginning(city, sky)
    street = city[1][0][0]
    orders = rule[start]
    answer = slow.answers(city, sky, start, orders)[0]
    lanes = ((street, city[1][0][1]),)
    names = {street: "new", sky[0]: "other"}
    weather = {start: (0, {orders: answer})}
    other = either_sky(sky, calm_sky())
    mean, chart, lap = dearest(city, sky, rule)
    cards = cards_for(city, sky, rule)
    facts, _ = cards[0]
    event = (orders, answer[0], (street,), answer[1], ())
    home = city[1][0][1]
    desk = Desk(city, sky, "")
    desk.write(orders, answer)
    trip, prices = round_trip(city, home, lanes)
    prompt = city[:3] + ((city[3][0], 0, 0),)
    idle = (None,) * len(city[2])
    told = {
        "cities": {"check_city": (city,), "check_sky": (city, sky), "is_city": (city,), "is_sky": (city, sky), "arcs_of": (sky, sky[0])},
        "world": {
            "beginning": (city, sky), "orders_of": (city, start), "answers_of": (city, sky, start, orders), "follow": (city, sky, start, orders, answer),
            "followers": (city, sky, start, orders), "closed_streets": (city, start), "is_standing": (city, sky, start),
        },
        "games": {"verdict": (city, sky), "standings_of": (city, sky)},
        "papers": {
            "is_rule": (city, sky, rule), "is_weather": (city, sky, weather), "check_rule": (city, sky, rule), "check_weather": (city, sky, weather),
            "holds": (city, sky, ("promised", rule)),
        },
        "runs": {
            "run": (city, sky, ((orders, answer),)), "first_closed": (city, [start]),
            "met": (WORSE, FAIR, rule, verdict(WORSE, FAIR)[1]), "kept_up": (city, sky, rule, (3, 1, 4)),
        },
        "fewest": {
            "with_ploughs": (city, (0,)), "with_rules": (city, 1, 0), "fewest_ploughs": (city, sky), "greatest_late": (city, sky),
            "greatest_falls": (city, sky),
        },
        "routes": {
            "lanes_of": (city,), "is_trip": (city, home, lanes, trip), "empty_way": (city, trip), "balance_of": (city, lanes),
            "hang_together": (city, home, lanes), "round_trip": (city, home, lanes), "is_priced": (city, home, lanes, trip, prices),
            "any_trip": (city, home, lanes), "is_tabled": (city, home, lanes, *any_trip(city, home, lanes)),
        },
        "alike": {
            "renamed_city": (city, names), "renamed_sky": (sky, names), "renamed_standing": (start, names), "renamed_orders": (orders, names),
            "renamed_rule": (rule, names), "renamed_weather": (weather, names),
        },
        "tours": {
            "first_belief": (prompt, sky), "is_shut": (prompt, first_belief(prompt, sky)), "belief_behind": (prompt, sky, first_belief(prompt, sky), idle),
            "is_tour": (prompt, sky, (), (idle,)), "tour_for": (prompt, sky), "is_tourless": (prompt, sky, {first_belief(prompt, sky): 0}),
        },
        "forecasts": {"told_ahead": (sky,), "with_forecast": (sky, 1), "least_forecast": (city, sky, 1)},
        "citytexts": {"read_city": (city_text(city, sky),), "city_text": (city, sky)},
        "standingtexts": {
            "standing_text": (start,), "orders_text": (orders,), "answer_text": (answer,), "standing_by": (city, sky, "0"), "orders_by": (city, start, "-"),
            "answer_by": (city, sky, start, orders, "0 n -"),
        },
        "desks": {
            "book_line": (0, orders, answer), "book_in": (city, sky, desk.loose), "proposal": (Desk(city, sky, ""), rule), "standings_in": (desk,),
            "departures": (desk, rule),
        },
        "skies": {
            "compared": (sky, other), "is_relation": (sky, other, compared(sky, other)[1]), "is_lead": (other, sky, compared(other, sky)[1]),
            "comparison_holds": (sky, other, compared(sky, other)),
        },
        "madeskies": {
            "noticed_sky": (sky, (tuple(row[0] for row in city[1]),)), "either_sky": (sky, other), "spared_sky": (sky, (street,)), "calm_sky": (),
            "worst_sky": (city,),
        },
        "carrying": {
            "is_milder": (city, city), "carried_rule": (city, sky, (city, sky), rule, compared(sky, sky)[1]), "kept_part": (city, sky, rule),
        },
        "promises": {
            "ticks_to_clear": (city, sky, rule, street), "promised": (city, sky, rule, start, street),
            "is_promise": (city, sky, rule, street, ticks_to_clear(city, sky, rule, street)), "delay_from": (city, sky, rule, start, street),
            "is_delay": (city, sky, rule, start, street, delay_from(city, sky, rule, start, street)),
        },
        "costs": {
            "cost_of": (start,), "dearest": (city, sky, rule), "is_chart": (city, sky, rule, mean, chart), "is_lap": (city, sky, rule, mean, lap),
        },
        "cards": {
            "all_facts": (city, 0), "seen_with": (start, 0, facts), "is_card": (city, sky, rule, 0, cards[0]), "card_of": (city, sky, rule, 0, ()),
            "fewest_facts": (city, sky, rule, 0), "are_pairs": (city, sky, rule, 0, -1, ()),
        },
        "fleet": {
            "cards_for": (city, sky, rule), "are_cards": (city, sky, rule, cards), "orders_by_cards": (start, cards),
            "driven_by_cards": (city, sky, cards, [answer]), "ever_closed": (city, [start]),
        },
        "blame": {
            "is_event": (city, sky, start, event), "happened": (city, sky, start, event), "wrong_with": (city, sky, rule, start, event),
            "way_of": (city, sky, [event]), "blame": (city, sky, rule, (event,)),
        },
        "shell": {"run_script": (city_text(city, sky) + "\ngo\nverdict\nplan\nmay\ncost\nstrayed\nclosed\nnow",)},
    }
    return told


def worth(thing):
    """What can be compared of a thing: desks by what they have."""
    if isinstance(thing, Desk):
        return (thing.city, thing.sky, thing.text, thing.loose, thing.ticks, thing.standing)
    if isinstance(thing, tuple):
        return tuple(map(worth, thing))
    return thing


def outcome(function, arguments):
    """What a call brings: a value, or an error with what it tells."""
    try:
        return "value", function(*arguments)
    except SnowError as error:
        return type(error).__name__, vars(error)


class Conventions(unittest.TestCase):
    def test_equal_arguments_equal_values_and_none_is_changed(self):
        worlds = [(TOWN, FAIR, verdict(TOWN, FAIR)[1])] + [world for world in kept_worlds(30) if len(world[2]) < 60]
        self.assertGreater(len(worlds), 20)
        for city, sky, rule in worlds:
            calls = calls_in(city, sky, rule)
            self.assertEqual({module: set(names) for module, names in calls.items()}, {module: set(names) for module, names in FUNCTIONS.items()})
            for module, names in calls.items():
                for name, arguments in names.items():
                    function = getattr(importlib.import_module(f"snowsure.{module}"), name)
                    fresh = copy.deepcopy(arguments)
                    before = worth(copy.deepcopy(arguments))
                    value = outcome(function, arguments)
                    self.assertEqual(worth(arguments), before, name)
                    self.assertEqual(repr(worth(arguments)), repr(before), name)
                    again = outcome(function, fresh)
                    self.assertEqual(value, again, name)
                    self.assertEqual(repr(value), repr(again), name)

    def test_what_is_returned_is_nobodys_else(self):
        # Who changes what was returned changes nothing else.
        for city, sky, rule in kept_worlds(8):
            kept = kept_part(city, sky, rule)
            carried = carried_rule(city, sky, (city, sky), rule, {(state, state): True for state, _ in sky[1]})
            verdict(city, sky)[1].clear()
            cards_for(city, sky, rule)[0][1].clear()
            kept.clear()
            carried.clear()
            self.assertTrue(is_rule(city, sky, rule))
            self.assertTrue(is_rule(city, sky, verdict(city, sky)[1]))
            self.assertEqual(kept_part(city, sky, rule), rule)


class WhyItHolds(unittest.TestCase):
    def test_carried_rules_answer_here_what_is_one_there(self):
        rng = random.Random(3)
        for city, sky, rule in kept_worlds(25):
            relation = compared(calm_sky(), sky)
            if relation[0] == "no worse":
                carried = carried_rule(city, calm_sky(), (city, sky), rule, relation[1])
                answers = drawn_answers(city, calm_sky(), carried, 40, rng)
                standing = slow.start(city, calm_sky())
                for answer in answers:
                    standing = slow.behind(city, calm_sky(), standing, carried[standing], answer)
                    self.assertEqual(slow.closed(city, standing), ())

    def test_costs_along_a_run(self):
        rng = random.Random(4)
        for city, sky, rule in kept_worlds(40):
            (a, b), chart, (way, lap) = dearest(city, sky, rule)
            standing = slow.start(city, sky)
            total = 0
            stays = max(chart.values()) - min(chart.values())
            for ticks, answer in enumerate(drawn_answers(city, sky, rule, 60, rng), start=1):
                before = standing
                standing = slow.behind(city, sky, standing, rule[standing], answer)
                total += cost_of(standing)
                self.assertLessEqual(b * cost_of(standing) + chart[standing], a + chart[before])
                self.assertLessEqual(b * total, a * ticks + stays)
            # Along the lap it is just the mean, again and again.
            standings = [slow.start(city, sky)]
            for answer in way + lap * 3:
                standings.append(slow.behind(city, sky, standings[-1], rule[standings[-1]], answer))
            self.assertEqual(b * sum(map(cost_of, standings[len(way) + 1:])), 3 * a * len(lap))

    def test_as_long_as_nothing_was_wrong(self):
        rng = random.Random(5)
        for city, sky, rule in kept_worlds(40):
            standing = slow.start(city, sky)
            events = []
            for answer in drawn_answers(city, sky, rule, 40, rng):
                arc, comes, breaks = answer
                events.append((rule[standing], arc, slow.arcs(sky, standing[1])[arc][1], comes, () if breaks is None else (breaks,)))
                standing = slow.behind(city, sky, standing, rule[standing], answer)
            way = way_of(city, sky, events)
            self.assertLessEqual(set(way), set(rule))
            self.assertEqual({wrong_with(city, sky, rule, standing, event) for standing, event in zip(way, events)}, {()})
            self.assertIsNone(blame(city, sky, rule, events))

    def test_each_goes_by_their_own_card_and_all_together_keep_the_promise(self):
        rng = random.Random(6)
        for city, sky, (word, rule) in VERDICTS:
            if word == "promised" and len(rule) < 120:
                answers = drawn_answers(city, sky, rule, 30, rng)
                self.assertEqual(ever_closed(city, driven_by_cards(city, sky, cards_for(city, sky, rule), answers)), ())


if __name__ == "__main__":
    unittest.main()
