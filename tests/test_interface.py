"""[28], [1] The interface: names, arguments, where each is defined; and the examples, to the sign."""

import doctest
import importlib
import inspect
import unittest

from snowsure import desks, errors
from tests.samples import FAIR, TOWN

FUNCTIONS = {
    "cities": {
        "check_city": "thing", "check_sky": "city, thing", "is_city": "thing", "is_sky": "city, thing", "arcs_of": "sky, state",
    },
    "world": {
        "beginning": "city, sky", "orders_of": "city, standing", "answers_of": "city, sky, standing, orders",
        "follow": "city, sky, standing, orders, answer", "followers": "city, sky, standing, orders",
        "closed_streets": "city, standing", "is_standing": "city, sky, thing",
    },
    "games": {"verdict": "city, sky", "standings_of": "city, sky"},
    "papers": {
        "is_rule": "city, sky, rule", "is_weather": "city, sky, weather", "check_rule": "city, sky, rule",
        "check_weather": "city, sky, weather", "holds": "city, sky, told",
    },
    "runs": {
        "run": "city, sky, steps", "first_closed": "city, standings", "met": "city, sky, rule, weather",
        "kept_up": "city, sky, rule, answers",
    },
    "fewest": {
        "with_ploughs": "city, choice", "with_rules": "city, late, falls", "fewest_ploughs": "city, sky",
        "greatest_late": "city, sky", "greatest_falls": "city, sky",
    },
    "routes": {
        "lanes_of": "city", "is_trip": "city, home, lanes, trip", "empty_way": "city, trip", "balance_of": "city, lanes",
        "hang_together": "city, home, lanes", "round_trip": "city, home, lanes", "is_priced": "city, home, lanes, trip, prices",
        "any_trip": "city, home, lanes", "is_tabled": "city, home, lanes, trip, table",
    },
    "alike": {
        "renamed_city": "city, names", "renamed_sky": "sky, names", "renamed_standing": "standing, names",
        "renamed_orders": "orders, names", "renamed_rule": "rule, names", "renamed_weather": "weather, names",
    },
    "tours": {
        "first_belief": "city, sky", "is_shut": "city, belief", "belief_behind": "city, sky, belief, orders",
        "is_tour": "city, sky, first, again", "tour_for": "city, sky", "is_tourless": "city, sky, ranks",
    },
    "forecasts": {"told_ahead": "sky", "with_forecast": "sky, ticks", "least_forecast": "city, sky, most"},
    "citytexts": {"read_city": "text", "city_text": "city, sky"},
    "standingtexts": {
        "standing_text": "standing", "orders_text": "orders", "answer_text": "answer", "standing_by": "city, sky, text",
        "orders_by": "city, standing, text", "answer_by": "city, sky, standing, orders, text",
    },
    "desks": {
        "book_line": "number, orders, answer", "book_in": "city, sky, text", "proposal": "desk, rule", "standings_in": "desk",
        "departures": "desk, rule",
    },
    "skies": {
        "compared": "one, other", "is_relation": "one, other, thing", "is_lead": "one, other, thing",
        "comparison_holds": "one, other, told",
    },
    "madeskies": {
        "noticed_sky": "sky, notice", "either_sky": "one, other", "spared_sky": "sky, spared", "calm_sky": "", "worst_sky": "city",
    },
    "carrying": {
        "is_milder": "city, other", "carried_rule": "city, sky, harder, rule, relation", "kept_part": "city, sky, rule",
    },
    "promises": {
        "ticks_to_clear": "city, sky, rule, street", "promised": "city, sky, rule, standing, street",
        "is_promise": "city, sky, rule, street, thing", "delay_from": "city, sky, rule, standing, street",
        "is_delay": "city, sky, rule, standing, street, thing",
    },
    "costs": {
        "cost_of": "standing", "dearest": "city, sky, rule", "is_chart": "city, sky, rule, mean, thing",
        "is_lap": "city, sky, rule, mean, thing",
    },
    "cards": {
        "all_facts": "city, plough", "seen_with": "standing, plough, facts", "is_card": "city, sky, rule, plough, thing",
        "card_of": "city, sky, rule, plough, facts", "fewest_facts": "city, sky, rule, plough",
        "are_pairs": "city, sky, rule, plough, many, thing",
    },
    "fleet": {
        "cards_for": "city, sky, rule", "are_cards": "city, sky, rule, thing", "orders_by_cards": "standing, cards",
        "driven_by_cards": "city, sky, cards, answers", "ever_closed": "city, standings",
    },
    "blame": {
        "is_event": "city, sky, standing, thing", "happened": "city, sky, standing, event",
        "wrong_with": "city, sky, rule, standing, event", "way_of": "city, sky, events", "blame": "city, sky, rule, events",
    },
    "shell": {"run_script": "text"},
}

METHODS = {"__init__": "self, city, sky, text", "write": "self, orders, answer", "settle": "self", "fallen": "self, cut"}

ERRORS = {
    "errors": {
        "BadCity": ("name", "why"), "BadSky": ("name", "why"), "BadOrders": ("thing",), "BadPaper": ("why",), "TooMany": ("most",),
        "BadText": ("line", "column"),
    },
    "deskerrors": {"BadCut": ("cut",), "BadBook": ("why",)},
}

# The examples build on each other, as in the document.
EXAMPLES = {
    "the town": '''
>>> from snowsure.games import verdict
>>> hill = ("hill", "a", "b", 1, 1, 1, ((0, 1),))
>>> town = (("a", "b"), (hill,), (("ann", "a"),), (3, 1, 0))
>>> fair = ("dry", (("dry", (("dry", ()), ("wet", ("hill",)))), ("wet", (("dry", ()),))))
>>> verdict(town, fair)[0], verdict(town[:3] + ((3, 2, 0),), fair)[0]
('promised', 'beaten')
''',
    "cities": '''
>>> from snowsure.cities import is_city, is_sky
>>> hill = ("hill", "a", "b", 1, 1, 1, ((0, 1),))
>>> town = (("a", "b"), (hill,), (("ann", "a"),), (3, 1, 0))
>>> fair = ("dry", (("dry", (("dry", ()), ("wet", ("hill",)))), ("wet", (("dry", ()),))))
>>> [is_city(town), is_city(town[:3]), is_sky(town, fair), is_sky(town, ("fog", fair[1]))]
[True, False, True, False]
''',
    "world": '''
>>> from snowsure.world import answers_of, beginning, closed_streets, follow, orders_of
>>> start = beginning(town, fair)
>>> [start, orders_of(town, start), answers_of(town, fair, start, (("hill", True),))]
[(0, 'dry', (0,), (('at', 'a'),), 0), [(None,), (('hill', False),), (('hill', True),)], \
[(0, (False,), None), (0, (True,), None), (1, (False,), None), (1, (True,), None)]]
>>> late = follow(town, fair, start, (("hill", True),), (1, (False,), None))
>>> [late, follow(town, fair, late, (None,), (0, (True,), None)), closed_streets(town, (0, "dry", (2,), (("at", "a"),), 0))]
[(1, 'wet', (1,), (('on', 'hill', 'b', True, 0),), 0), (2, 'dry', (0,), (('at', 'b'),), 0), ('hill',)]
''',
    "papers": '''
>>> from snowsure.games import verdict
>>> from snowsure.papers import holds, is_rule
>>> word, rule = verdict(town, fair)
>>> [word, is_rule(town, fair, rule), is_rule(town, fair, {}), holds(town, fair, ("beaten", rule))]
['promised', True, False, False]
''',
    "runs": '''
>>> from snowsure.runs import first_closed, kept_up, met, run
>>> worse = town[:3] + ((3, 2, 0),)
>>> steps = met(worse, fair, {}, verdict(worse, fair)[1])
>>> [first_closed(worse, run(worse, fair, steps))[1], first_closed(town, kept_up(town, fair, rule, (3, 1, 2, 0, 3, 1)))]
[('hill',), None]
''',
    "fewest": '''
>>> from snowsure.fewest import fewest_ploughs, greatest_falls, greatest_late
>>> pair = town[:2] + ((("ann", "a"), ("bob", "b")), (3, 1, 1))
>>> [greatest_late(town, fair)[0], greatest_falls(town, fair)[0], fewest_ploughs(pair[:3] + ((3, 1, 0),), fair)[0]]
[1, 0, (0,)]
''',
    "routes": '''
>>> from snowsure.routes import any_trip, balance_of, empty_way, is_priced, round_trip
>>> streets = (("ab", "a", "b", 2, 2, 0, ()), ("bc", "b", "c", 3, 3, 0, ()), ("ca", "c", "a", 4, 4, 0, ()))
>>> ring = (("a", "b", "c"), streets, (("ann", "a"),), (1, 0, 0))
>>> trip, prices = round_trip(ring, "a", (("ab", "a"), ("bc", "b")))
>>> both = (("ab", "a"), ("bc", "b"))
>>> [trip, balance_of(ring, both), is_priced(ring, "a", both, trip, prices)]
[(('ab', 'a', True), ('bc', 'b', True), ('ca', 'c', False)), {'a': -1, 'b': 0, 'c': 1}, True]
>>> empty_way(ring, any_trip(ring, "a", (("bc", "b"),))[0])
6
''',
    "alike": '''
>>> from snowsure.alike import renamed_orders, renamed_standing
>>> [renamed_standing(late, {"hill": "mount", "wet": "grey"}), renamed_orders((("hill", True),), {"hill": "mount"})]
[(1, 'grey', (1,), (('on', 'mount', 'b', True, 0),), 0), (('mount', True),)]
''',
    "tours": '''
>>> from snowsure.tours import first_belief, is_tour, tour_for
>>> prompt = town[:3] + ((3, 0, 0),)
>>> [first_belief(prompt, fair), tour_for(prompt, fair)[0], is_tour(prompt, fair, (), ((("hill", True),),) * 6),
... is_tour(prompt, fair, (), ((None,),) * 3)]
[(0, (('at', 'a'),), (('dry', (0,)),)), 'tour', False, False]
''',
    "forecasts": '''
>>> from snowsure.forecasts import least_forecast, told_ahead, with_forecast
>>> [is_sky(town, told_ahead(fair)), len(told_ahead(fair)[1]), with_forecast(fair, 0) == fair, least_forecast(town, fair, 2)[0]]
[True, 4, True, 0]
>>> the_town = town
''',
    "citytexts": '''
>>> from snowsure.citytexts import city_text, read_city
>>> hill = ("hill", "a", "b", 1, 1, 2, ((0, 3),))
>>> town = (("a", "b"), (hill,), (("ann", "a"),), (3, 0, 0))
>>> storm = ("s", (("s", (("s", ("hill",)),)),))
>>> text = "day 3 late 0 falls 0\\njunction a\\njunction b\\nstreet hill a b 1 1 2 0-3\\nplough ann a\\nsky s\\narc s s hill"
>>> read_city(text) == (town, storm), read_city(city_text(town, storm)) == (town, storm)
(True, True)
''',
    "standingtexts": '''
>>> from snowsure.standingtexts import answer_text, orders_by, orders_text, standing_by, standing_text
>>> first = beginning(town, storm)
>>> standing_text(first), orders_text((("hill", True),)), answer_text((0, (True,), None)), orders_by(town, first, "-"), \
standing_by(town, storm, "0 s 0 at:a 0") == first
('0 s 0 at:a 0', 'hill:work', '0 y -', (None,), True)
''',
    "desks": '''
>>> from snowsure.desks import Desk, standings_in
>>> desk = Desk(town, storm, "")
>>> desk.write((("hill", True),), (0, (True,), None)), desk.loose, desk.standing, len(Desk(town, storm, desk.fallen(5)).ticks), \
len(Desk(town, storm, desk.fallen(22)).ticks), len(standings_in(desk))
(None, '0 hill:work / 0 y - 0\\n', (1, 's', (1,), (('at', 'b'),), 0), 0, 1, 2)
''',
    "skies": '''
>>> from snowsure.skies import compared, is_lead, is_relation
>>> from snowsure.madeskies import calm_sky
>>> compared(calm_sky(), storm)[0], compared(storm, calm_sky())[0], is_lead(storm, calm_sky(), {("s", "calm"): (0, 0)}), \
is_relation(calm_sky(), storm, {("calm", "s"): True})
('no worse', 'worse', True, True)
''',
    "madeskies": '''
>>> from snowsure.madeskies import calm_sky, either_sky, noticed_sky, spared_sky, worst_sky
>>> compared(worst_sky(town), storm)[0], compared(spared_sky(storm, ("hill",)), calm_sky())[0], \
compared(storm, either_sky(storm, calm_sky()))[0], compared(noticed_sky(calm_sky(), ((),)), calm_sky())[0]
('no worse', 'no worse', 'no worse', 'no worse')
''',
    "carrying": '''
>>> from snowsure.carrying import carried_rule, is_milder, kept_part
>>> rule = verdict(town, storm)[1]
>>> calm = calm_sky()
>>> is_milder(town, town), is_rule(town, calm, carried_rule(town, calm, (town, storm), rule, compared(calm, storm)[1])), \
is_rule(town, storm, kept_part(town, storm, rule)), kept_part(town, storm, {})
(True, True, True, {})
''',
    "promises": '''
>>> from snowsure.promises import delay_from, is_delay, is_promise, promised, ticks_to_clear
>>> always = dict([((time, "s", (snow,), (("at", end),), 0), (("hill", True),)) for time, snow, end in \
[(0, 0, "a"), (1, 1, "b"), (2, 1, "a"), (0, 1, "b"), (1, 1, "a"), (2, 1, "b"), (0, 1, "a")]])
>>> is_rule(town, storm, always), promised(town, storm, always, first, "hill"), delay_from(town, storm, always, first, "hill"), \
is_promise(town, storm, always, "hill", {first: 1})
(True, 1, ((), None), True)
''',
    "costs": '''
>>> from snowsure.costs import cost_of, dearest, is_chart, is_lap
>>> mean, chart, lap = dearest(town, storm, always)
>>> mean, is_chart(town, storm, always, mean, chart), is_lap(town, storm, always, mean, lap), cost_of(first), \
is_lap(town, storm, always, (1, 1), lap)
((0, 1), True, True, 0, False)
''',
    "cards": '''
>>> from snowsure.cards import all_facts, are_pairs, card_of, fewest_facts, is_card, seen_with
>>> all_facts(town, 0), seen_with(first, 0, (("time",), ("snow", 0))), fewest_facts(town, storm, always, 0)
((('fallen',), ('snow', 0), ('state',), ('time',)), ('a', 0, 0), (((), {('a',): ('hill', True), ('b',): ('hill', True)}), ()))
''',
    "fleet": '''
>>> from snowsure.fleet import are_cards, cards_for, driven_by_cards, ever_closed, orders_by_cards
>>> cards = cards_for(town, storm, always)
>>> are_cards(town, storm, always, cards), orders_by_cards(first, cards), \
ever_closed(town, driven_by_cards(town, storm, cards, ((0, (True,), None),) * 5))
(True, (('hill', True),), ())
''',
    "blame": '''
>>> from snowsure.blame import blame, happened, is_event, way_of, wrong_with
>>> idle = ((None,), 0, ("hill",), (False,), ())
>>> is_event(town, storm, first, idle), happened(town, storm, first, idle), wrong_with(town, storm, always, first, idle), \
blame(town, storm, always, (idle, idle, idle)) == (3, ("hill",), ((0, ("orders",)), (1, ("orders",)), (2, ("orders",)))), \
blame(town, storm, always, (idle,))
(True, (1, 's', (1,), (('at', 'a'),), 0), ('orders',), True, None)
''',
    "shell": '''
>>> from snowsure.shell import run_script
>>> run_script(text + "\\ngo\\nnow\\nclosed\\ntick hill:work / 0 y -\\nnow\\nfall 3")
['0 s 0 at:a 0', 'closed', 'at 1', '1 s 1 at:b 0', 'at 0']
''',
}


class Names(unittest.TestCase):
    def test_functions(self):
        for module, functions in FUNCTIONS.items():
            loaded = importlib.import_module(f"snowsure.{module}")
            for name, arguments in functions.items():
                function = getattr(loaded, name)
                self.assertTrue(inspect.isfunction(function))
                self.assertEqual(function.__module__, f"snowsure.{module}")
                self.assertEqual(str(inspect.signature(function)), f"({arguments})", name)

    def test_errors(self):
        self.assertEqual(errors.SnowError.__bases__, (Exception,))
        for module, kinds in ERRORS.items():
            for name, attributes in kinds.items():
                error = getattr(importlib.import_module(f"snowsure.{module}"), name)
                self.assertEqual(error.__module__, f"snowsure.{module}")
                self.assertEqual(error.__bases__, (errors.SnowError,))
                self.assertIn("__init__", vars(error))
                told = [object() for _ in attributes]
                by_place = error(*told)
                by_name = error(**dict(zip(attributes, told)))
                for attribute, value in zip(attributes, told):
                    self.assertIs(getattr(by_place, attribute), value)
                    self.assertIs(getattr(by_name, attribute), value)

    def test_the_desk(self):
        self.assertEqual(desks.Desk.__module__, "snowsure.desks")
        for name, arguments in METHODS.items():
            method = vars(desks.Desk)[name]
            self.assertTrue(inspect.isfunction(method))
            self.assertEqual(str(inspect.signature(method)), f"({arguments})", name)
        desk = desks.Desk(TOWN, FAIR, "")
        self.assertLessEqual({"text", "loose", "ticks", "standing"}, set(vars(desk)))


class Examples(unittest.TestCase):
    def test_to_the_sign(self):
        names = {}
        for name, text in EXAMPLES.items():
            test = doctest.DocTestParser().get_doctest(text, names, name, name, 0)
            runner = doctest.DocTestRunner(verbose=False)
            complaints = []
            runner.run(test, out=complaints.append, clear_globs=False)
            names.update(test.globs)
            self.assertEqual(complaints, [])
            self.assertGreater(runner.summarize(verbose=False).attempted, 1)
        self.assertEqual((names["the_town"], names["fair"]), (TOWN, FAIR))


if __name__ == "__main__":
    unittest.main()
