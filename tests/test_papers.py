"""[6] Judges: papers of verdict are taken, and papers changed at one place are told apart."""

import copy
import unittest

from snowsure.errors import BadPaper, SnowError
from snowsure.games import verdict
from snowsure.papers import check_rule, check_weather, holds, is_rule, is_weather
from snowsure.world import beginning, closed_streets, follow, orders_of
from tests import slow
from tests.samples import FAIR, OTHER_THINGS, TOWN, WORSE, clear_sky, empty_town, small_worlds

RULE = verdict(TOWN, FAIR)[1]
WEATHER = verdict(WORSE, FAIR)[1]
START = beginning(TOWN, FAIR)


class PaperCase(unittest.TestCase):
    def rule_is(self, wanted, rule, city=TOWN, sky=FAIR):
        self.judged(wanted, is_rule, check_rule, (city, sky, rule))
        self.assertIs(holds(city, sky, ("promised", rule)), wanted)

    def weather_is(self, wanted, weather, city=WORSE, sky=FAIR):
        self.judged(wanted, is_weather, check_weather, (city, sky, weather))
        self.assertIs(holds(city, sky, ("beaten", weather)), wanted)

    def judged(self, wanted, judge, check, arguments):
        before = copy.deepcopy(arguments)
        self.assertIs(judge(*arguments), wanted)
        if wanted:
            self.assertIsNone(check(*arguments))
        else:
            with self.assertRaises(BadPaper) as caught:
                check(*arguments)
            self.assertTrue(hasattr(caught.exception, "why"))
            self.assertIsInstance(caught.exception, SnowError)
        if not any(type(thing) is object for thing in arguments):
            self.assertEqual(arguments, before)


def changed(paper, key, value):
    """A paper with another value at a key."""
    other = dict(paper)
    other[key] = value
    return other


def lacking(paper, key):
    other = dict(paper)
    del other[key]
    return other


class Rules(PaperCase):
    def test_verdicts_rule(self):
        self.rule_is(True, RULE)

    def test_each_standing_is_needed(self):
        for standing in RULE:
            self.rule_is(False, lacking(RULE, standing))
        self.rule_is(False, {})

    def test_orders_that_cannot_be_given(self):
        wrong = (
            None, (), (None, None), [None], (("nowhere", True),), (("hill", 1),), (("hill", 0),), (["hill", True],), (("hill",),),
            (("hill", True, 0),), ("hill",), 0, "hill", {}, (("hill", None),), ((None, True),), ((["hill"], True),),
        )
        for standing in list(RULE)[:12]:
            for orders in wrong:
                self.rule_is(False, changed(RULE, standing, orders))
        for standing in RULE:
            self.rule_is(False, changed(RULE, standing, [None]))
            self.rule_is(False, changed(RULE, standing, list(RULE[standing])))
            if standing[3][0][0] == "on":
                self.rule_is(False, changed(RULE, standing, (("hill", True),)))

    def test_other_orders_by_the_second_telling(self):
        for standing in RULE:
            for orders in slow.orders(TOWN, standing):
                other = changed(RULE, standing, orders)
                self.rule_is(slow.keeps(TOWN, FAIR, other)[0], other)

    def test_a_rule_that_comes_to_a_closed_standing(self):
        idle = {standing: (None,) * len(standing[3]) for standing in slow.formed(TOWN, FAIR)}
        self.rule_is(False, idle)
        self.rule_is(False, {**idle, START: (("hill", True),)})

    def test_what_cannot_be_come_to_counts_for_nothing(self):
        far = (0, "dry", (2,), (("at", "a"),), 0)
        self.assertTrue(closed_streets(TOWN, far))
        for key in (far, None, 5, "hill", (), (0,), ("dry", 0), START + (0,)):
            for value in (None, [], (None,), 5, "x", (("nowhere", True),)):
                self.rule_is(True, changed(RULE, key, value))

    def test_more_standings_than_verdict_has(self):
        more = {standing: (None,) for standing in slow.formed(TOWN, FAIR)}
        more.update(RULE)
        self.assertGreater(len(more), len(RULE))
        self.rule_is(True, more)

    def test_a_paper_beyond_what_verdict_goes_through(self):
        city, sky = empty_town(60), clear_sky(30)
        rule = {standing: (None,) for standing in slow.formed(city, sky)}
        self.assertEqual(len(rule), 1800)
        self.rule_is(True, rule, city, sky)
        self.rule_is(False, lacking(rule, (59, "s0", (), (("at", "a"),), 0)), city, sky)

    def test_other_things(self):
        for thing in OTHER_THINGS:
            self.rule_is(False, thing)
        self.rule_is(False, list(RULE.items()))
        self.rule_is(False, tuple(RULE.items()))
        self.rule_is(False, WEATHER)

    def test_rules_are_of_a_city_and_a_sky(self):
        self.rule_is(False, RULE, WORSE)
        storm = ("dry", (("dry", (("dry", ("hill",)),)), ("wet", (("dry", ()),))))
        self.rule_is(False, RULE, TOWN, storm)


class Weathers(PaperCase):
    def test_verdicts_weather(self):
        self.weather_is(True, WEATHER)

    def test_each_standing_is_needed(self):
        for standing in WEATHER:
            self.weather_is(False, lacking(WEATHER, standing))
        self.weather_is(False, {})

    def open_ones(self):
        return [standing for standing in WEATHER if not closed_streets(WORSE, standing)]

    def closed_ones(self):
        return [standing for standing in WEATHER if closed_streets(WORSE, standing)]

    def test_the_form_of_pairs(self):
        for standing in WEATHER:
            rank, answers = WEATHER[standing]
            for pair in (None, (), (rank,), (rank, answers, 0), [rank, answers], rank, answers, "ab", {0: rank, 1: answers}):
                self.weather_is(False, changed(WEATHER, standing, pair))

    def test_the_ranks(self):
        for standing in WEATHER:
            rank, answers = WEATHER[standing]
            for other in (True, False, -1, None, 1.0, "1", float(rank), (rank,), [rank]):
                self.weather_is(False, changed(WEATHER, standing, (other, answers)))

    def test_a_rank_that_is_no_lesser_one(self):
        highest = max(rank for rank, _ in WEATHER.values())
        for standing in WEATHER:
            rank, answers = WEATHER[standing]
            for other in range(highest + 2):
                paper = changed(WEATHER, standing, (other, answers))
                self.weather_is(slow.beats(WORSE, FAIR, paper)[0], paper)
            if standing != START:
                self.weather_is(False, changed(WEATHER, standing, (highest + 1, answers)))

    def test_ranks_may_be_great_and_have_gaps(self):
        paper = {standing: (7 * rank + 10**30, answers) for standing, (rank, answers) in WEATHER.items()}
        self.weather_is(True, paper)

    def test_ranks_of_equal_size(self):
        self.weather_is(False, {standing: (3, answers) for standing, (_, answers) in WEATHER.items()})

    def test_answers_that_lack_or_are_no_dict(self):
        for standing in self.open_ones():
            rank, answers = WEATHER[standing]
            for other in (None, [], (), {}, list(answers.items()), tuple(answers), 0, "x"):
                self.weather_is(False, changed(WEATHER, standing, (rank, other)))
            for orders in answers:
                self.weather_is(False, changed(WEATHER, standing, (rank, lacking(answers, orders))))

    def test_answers_that_cannot_be(self):
        for standing in self.open_ones():
            rank, answers = WEATHER[standing]
            for orders, (arc, comes, breaks) in answers.items():
                for other in (
                    None, (), (arc, comes), [arc, comes, breaks], (arc, list(comes), breaks), (2, comes, breaks), (-1, comes, breaks),
                    (bool(arc), comes, breaks), (float(arc), comes, breaks), (arc, (), breaks), (arc, (int(comes[0]),), breaks),
                    (arc, comes, 0), (arc, comes, False), (arc, comes + (False,), breaks),
                ):
                    paper = changed(WEATHER, standing, (rank, changed(answers, orders, other)))
                    self.weather_is(False, paper)

    def test_other_answers_by_the_second_telling(self):
        found = set()
        for standing in self.open_ones():
            rank, answers = WEATHER[standing]
            for orders in answers:
                for answer in slow.answers(WORSE, FAIR, standing, orders):
                    paper = changed(WEATHER, standing, (rank, changed(answers, orders, answer)))
                    wanted = slow.beats(WORSE, FAIR, paper)[0]
                    found.add(wanted)
                    self.weather_is(wanted, paper)
        self.assertEqual(found, {True, False})

    def test_at_closed_standings_form_and_rank_alone_are_looked_at(self):
        self.assertTrue(self.closed_ones())
        for standing in self.closed_ones():
            rank = WEATHER[standing][0]
            for answers in (None, {}, 5, [], "x", {None: None}):
                self.weather_is(True, changed(WEATHER, standing, (rank, answers)))

    def test_answers_to_orders_that_cannot_be_given_count_for_nothing(self):
        for standing in self.open_ones():
            rank, answers = WEATHER[standing]
            for orders in ((("nowhere", True),), None, (), 5, "x", (None, None)):
                for answer in (None, (0, (False,), None), 5, (9, (), ())):
                    paper = changed(WEATHER, standing, (rank, changed(answers, orders, answer)))
                    self.weather_is(True, paper)

    def test_what_cannot_be_come_to_counts_for_nothing(self):
        for key in ((0, "dry", (2,), (("at", "a"),), 0), None, 5, (), START + (0,)):
            for value in (None, (0, {}), (True, {}), [], "x"):
                self.weather_is(True, changed(WEATHER, key, value))

    def test_more_standings_than_verdict_has(self):
        more = {standing: (0, {}) for standing in slow.formed(WORSE, FAIR)}
        more.update(WEATHER)
        self.assertGreater(len(more), len(WEATHER))
        self.weather_is(True, more)

    def test_other_things(self):
        for thing in OTHER_THINGS:
            self.weather_is(False, thing)
        self.weather_is(False, list(WEATHER.items()))
        self.weather_is(False, RULE)

    def test_weathers_are_of_a_city_and_a_sky(self):
        self.weather_is(False, WEATHER, TOWN)
        self.weather_is(False, WEATHER, WORSE, ("dry", (("dry", (("dry", ()),)), ("wet", (("dry", ()),)))))


class SmallWorlds(PaperCase):
    def test_papers_of_verdict(self):
        for city, sky in small_worlds(80):
            if slow.reached(city, sky, 150) is None:
                continue
            word, paper = verdict(city, sky)
            self.assertIs(holds(city, sky, (word, paper)), True)
            self.assertIs(is_rule(city, sky, paper), word == "promised")
            self.assertIs(is_weather(city, sky, paper), word == "beaten")
            for key in list(paper)[::7]:
                self.assertIs(holds(city, sky, (word, lacking(paper, key))), False)


class Holds(PaperCase):
    def test_words_and_papers(self):
        self.assertIs(holds(TOWN, FAIR, verdict(TOWN, FAIR)), True)
        self.assertIs(holds(WORSE, FAIR, verdict(WORSE, FAIR)), True)
        self.assertIs(holds(TOWN, FAIR, ("beaten", RULE)), False)
        self.assertIs(holds(WORSE, FAIR, ("promised", WEATHER)), False)
        self.assertIs(holds(WORSE, FAIR, ("promised", RULE)), False)

    def test_other_things(self):
        told = ("promised", RULE)
        for thing in OTHER_THINGS:
            self.assertIs(holds(TOWN, FAIR, thing), False)
            self.assertIs(holds(TOWN, FAIR, (thing, RULE)), False)
            self.assertIs(holds(TOWN, FAIR, ("promised", thing)), False)
            self.assertIs(holds(WORSE, FAIR, ("beaten", thing)), False)
            self.assertIs(holds(WORSE, FAIR, (thing, WEATHER)), False)
        for thing in (list(told), told[:1], told + (None,), ("Promised", RULE), ("promise", RULE), (b"promised", RULE), told[::-1],
                      {"promised": RULE}, (("promised",), RULE), ("beatenx", RULE), ("", RULE)):
            self.assertIs(holds(TOWN, FAIR, thing), False)


class WhoeverFollows(unittest.TestCase):
    def test_ranks_sink_till_a_standing_is_closed(self):
        for standing, (rank, answers) in WEATHER.items():
            for orders in orders_of(WORSE, standing) if answers else []:
                behind = follow(WORSE, FAIR, standing, orders, answers[orders])
                self.assertLess(WEATHER[behind][0], rank)


if __name__ == "__main__":
    unittest.main()
