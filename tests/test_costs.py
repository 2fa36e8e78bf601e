"""[22] What a rule costs."""

import copy
import random
import unittest
from fractions import Fraction

from snowsure.costs import cost_of, dearest, is_chart, is_lap
from snowsure.games import verdict
from snowsure.world import beginning
from tests import slow
from tests.samples import ALWAYS, KEPT, OTHER_THINGS, STORM, clear_sky, kept_worlds, quiet_town

# Three ticks on the street, one more if it is late: on it for two or three ticks, at a junction for one.
LONG = (("a", "b"), (("long", "a", "b", 3, 3, 9, ()),), (("ann", "a"),), (1, 1, 0))
CALM = ("s", (("s", (("s", ()),)),))
COMES, STAYS = (0, (True,), None), (0, (False,), None)


def driving(city, sky):
    """The rule that ploughs drive through the first street that there is, wherever they are."""
    def drive(plough):
        return [(street[0], False) for street in city[1] if plough[1] in street[1:3]][0] if plough[0] == "at" else None

    return slow.rule_by(city, sky, lambda standing: tuple(map(drive, standing[3])))


def costs(standing):
    return sum(plough[0] == "on" for plough in standing[3])


def greatest_of_laps(city, sky, rule):
    """The greatest mean of all laps without a standing twice, each one tried."""
    table = {standing: {after for _, after in pairs} for standing, pairs in slow.under(city, sky, rule).items()}
    order = {standing: number for number, standing in enumerate(table)}
    best = None
    for first in table:
        todo = [(first, (first,))]
        while todo:
            standing, way = todo.pop()
            for after in table[standing]:
                if after == first:
                    mean = Fraction(sum(map(costs, way)), len(way))
                    best = mean if best is None else max(best, mean)
                elif order[after] > order[first] and after not in way:
                    todo.append((after, way + (after,)))
    return best


def greatest_of_ways(city, sky, rule):
    """The same by the dearest ways of each number of ticks, as Karp has it."""
    table = {standing: {after for _, after in pairs} for standing, pairs in slow.under(city, sky, rule).items()}
    many = len(table)
    rows = [{slow.start(city, sky): 0}]
    for _ in range(many):
        row = {}
        for standing, total in rows[-1].items():
            for after in table[standing]:
                row[after] = max(row.get(after, 0), total + costs(after))
        rows.append(row)
    return max(
        min(Fraction(total - rows[ticks][standing], many - ticks) for ticks in range(many) if standing in rows[ticks])
        for standing, total in rows[-1].items()
    )


def charts(city, sky, rule, mean, thing):
    """Whether a dict with integers for all that the rule comes to is a chart, told a second time."""
    return all(
        Fraction(costs(after)) + Fraction(thing[after] - thing[standing], mean[1]) <= Fraction(*mean)
        for standing, pairs in slow.under(city, sky, rule).items()
        for _, after in pairs
    )


class CostCase(unittest.TestCase):
    def dearest(self, city, sky, rule):
        before = copy.deepcopy((city, sky, rule))
        told = dearest(city, sky, rule)
        self.assertEqual((city, sky, rule), before)
        self.assertEqual(told, dearest(city, sky, rule))
        self.assertIsInstance(told, tuple)
        mean, chart, lap = told
        self.assertEqual([type(part) for part in (mean, mean[0], mean[1], chart, lap, lap[0], lap[1])], [tuple, int, int, dict, tuple, tuple, tuple])
        self.assertEqual((Fraction(*mean).numerator, Fraction(*mean).denominator), mean)
        self.assertEqual(Fraction(*mean), greatest_of_ways(city, sky, rule))
        self.chart(True, city, sky, rule, mean, chart)
        self.lap(True, city, sky, rule, mean, lap)
        self.assertTrue(charts(city, sky, rule, mean, chart))
        self.goes_round(city, sky, rule, mean, lap)
        return told

    def goes_round(self, city, sky, rule, mean, lap):
        way = [beginning(city, sky)]
        for answer in lap[0] + lap[1]:
            self.assertIn(answer, slow.answers(city, sky, way[-1], rule[way[-1]]))
            way.append(slow.behind(city, sky, way[-1], rule[way[-1]], answer))
        self.assertEqual(way[len(lap[0])], way[-1])
        self.assertEqual(Fraction(sum(map(costs, way[len(lap[0]) + 1:])), len(lap[1])), Fraction(*mean))

    def chart(self, wanted, city, sky, rule, mean, thing):
        before = copy.deepcopy((rule, mean, thing))
        self.assertIs(is_chart(city, sky, rule, mean, thing), wanted, (mean, thing))
        self.assertEqual((rule, mean, thing), before)

    def lap(self, wanted, city, sky, rule, mean, thing):
        before = copy.deepcopy((rule, mean, thing))
        self.assertIs(is_lap(city, sky, rule, mean, thing), wanted, (mean, thing))
        self.assertEqual((rule, mean, thing), before)


class Costs(unittest.TestCase):
    def test_ploughs_on_streets(self):
        on = ("on", "hill", "b", True, 0)
        for ploughs, wanted in (
            ((("at", "a"),), 0), ((on,), 1), ((("down",),), 0), ((on, on), 2), ((on, ("at", "a"), on, ("down",)), 2), ((on, on, on, on), 4),
            ((("on", "hill", "a", False, -4), ("at", "on")), 1),
        ):
            self.assertEqual(cost_of((0, "s", (0,), ploughs, ploughs.count(("down",)))), wanted)


class Dearest(CostCase):
    def test_nothing_to_pay(self):
        mean, _, _ = self.dearest(KEPT, STORM, ALWAYS)
        self.assertEqual(mean, (0, 1))
        idle = {(time, "s", (0,), (("at", "a"),), 0): (None,) for time in range(3)}
        self.assertEqual(self.dearest(KEPT, CALM, idle)[0], (0, 1))

    def test_all_the_way(self):
        self.assertEqual(self.dearest(LONG, CALM, driving(LONG, CALM))[0], (3, 4))
        for late in range(6):
            city = LONG[:3] + ((1, late, 0),)
            self.assertEqual(self.dearest(city, CALM, driving(city, CALM))[0], (2 + late, 3 + late))

    def test_without_common_divisors(self):
        # Two ploughs on two streets: 2 of 3 ticks each, 4/3 together.
        city = LONG[:2] + ((("ann", "a"), ("bob", "b")), (1, 0, 0))
        self.assertEqual(self.dearest(city, CALM, driving(city, CALM))[0], (4, 3))
        city = (LONG[0], (("long", "a", "b", 4, 4, 9, ()),), (("ann", "a"), ("bob", "b"), ("cid", "a")), (1, 0, 0))
        self.assertEqual(self.dearest(city, CALM, driving(city, CALM))[0], (9, 4))
        city = (LONG[0], (("long", "a", "b", 2, 2, 9, ()),), (("ann", "a"), ("bob", "b")), (1, 0, 0))
        self.assertEqual(self.dearest(city, CALM, driving(city, CALM))[0], (1, 1))

    def test_breakdowns_save(self):
        city = LONG[:2] + ((("ann", "a"), ("bob", "b")), (1, 0, 2))
        self.assertEqual(self.dearest(city, CALM, driving(city, CALM))[0], (4, 3))

    def test_behind_a_way(self):
        # Only behind some ticks of the sky's is there anything to do.
        sky = ("e0", (("e0", (("e1", ()),)), ("e1", (("s", ()), ("e2", ()))), ("e2", (("e2", ()),)), ("s", (("s", ()),))))
        is_due = lambda standing: standing[1] == "s" and standing[3][0][0] == "at"
        rule = slow.rule_by(LONG, sky, lambda standing: (("long", False),) if is_due(standing) else (None,))
        mean, _, lap = self.dearest(LONG, sky, rule)
        self.assertEqual(mean, (3, 4))
        self.assertGreaterEqual(len(lap[0]), 2)

    def test_of_all_laps(self):
        means = set()
        small = 0
        for city, sky, rule in kept_worlds(60):
            if len(rule) <= 80:
                mean, _, _ = self.dearest(city, sky, rule)
                means.add(mean)
                if len(rule) <= 10:
                    small += 1
                    self.assertEqual(Fraction(*mean), greatest_of_laps(city, sky, rule))
        self.assertGreater(len(means), 12)
        self.assertGreater(small, 15)

    def test_a_rule_with_more_standings(self):
        for city, sky, rule in kept_worlds(10):
            more = {"junk": None, **rule, (0, "x"): (), (7,): 3}
            mean, chart, lap = dearest(city, sky, more)
            self.assertEqual(mean, dearest(city, sky, rule)[0])
            self.chart(True, city, sky, more, mean, chart)
            self.lap(True, city, sky, more, mean, lap)

    def test_many_standings(self):
        # A ring of 480 standings and more; a lap's mean comes only behind a whole round of the day and the sky.
        city, sky = quiet_town(60, 8, 1), clear_sky(8)
        rule = verdict(city, sky)[1]
        mean, chart, lap = dearest(city, sky, rule)
        self.assertEqual((mean, set(chart)), ((0, 1), set(rule)))
        late = LONG[:3] + ((60, 1, 0),)
        rule = driving(late, clear_sky(3))
        mean, chart, lap = dearest(late, clear_sky(3), rule)
        self.assertGreater(len(rule), 900)
        self.assertEqual(mean, (3, 4))
        self.assertTrue(is_chart(late, clear_sky(3), rule, mean, chart) and is_lap(late, clear_sky(3), rule, mean, lap))


class Charts(CostCase):
    RULE = driving(LONG, CALM)
    MEAN, CHART, LAP = dearest(LONG, CALM, RULE)

    def test_to_the_sign(self):
        self.chart(True, LONG, CALM, self.RULE, (3, 4), self.CHART)
        self.chart(True, KEPT, STORM, ALWAYS, (0, 1), {standing: 0 for standing in ALWAYS})
        self.chart(True, KEPT, STORM, ALWAYS, (0, 1), {standing: -5 for standing in ALWAYS})
        self.chart(False, KEPT, STORM, ALWAYS, (-1, 1), {standing: 0 for standing in ALWAYS})

    def test_greater_means(self):
        flat = {standing: 0 for standing in self.RULE}
        self.chart(True, LONG, CALM, self.RULE, (1, 1), flat)
        self.chart(True, LONG, CALM, self.RULE, (7, 2), flat)
        self.chart(False, LONG, CALM, self.RULE, (4, 5), flat)
        raised = {standing: number + 3 for standing, number in self.CHART.items()}
        self.chart(True, LONG, CALM, self.RULE, (3, 4), raised)
        for mean in ((2, 3), (1, 2), (0, 1), (5, 7)):
            self.chart(False, LONG, CALM, self.RULE, mean, self.CHART)

    def test_one_place_changed(self):
        many = {True: 0, False: 0}
        for city, sky, rule in ((LONG, CALM, self.RULE),) + kept_worlds(25):
            if len(rule) > 40:
                continue
            mean, chart, _ = dearest(city, sky, rule)
            for standing in rule:
                for change in (1, -1, 7, -7):
                    changed = {**chart, standing: chart[standing] + change}
                    wanted = charts(city, sky, rule, mean, changed)
                    many[wanted] += 1
                    self.chart(wanted, city, sky, rule, mean, changed)
                self.chart(False, city, sky, rule, mean, {other: chart[other] for other in chart if other != standing})
        self.assertGreater(min(many.values()), 50)

    def test_no_integers(self):
        zeros = {standing: 0 for standing in ALWAYS}
        for standing in ALWAYS:
            for other in (True, False, None, "0", 0.0, (0,), [0], {}):
                self.chart(False, KEPT, STORM, ALWAYS, (0, 1), {**zeros, standing: other})
                self.chart(False, KEPT, STORM, ALWAYS, (1, 1), {**zeros, standing: other})

    def test_further_keys_count_for_nothing(self):
        more = {**self.CHART, "junk": None, (): True, (0, "s", (0,), (("at", "c"),), 0): -99, None: []}
        self.chart(True, LONG, CALM, self.RULE, (3, 4), more)

    def test_means(self):
        flat = {standing: 0 for standing in ALWAYS}
        for mean in (
            (0, 2), (0, 0), (0, -1), (2, 2), (6, 4), (0, True), (False, 1), (True, 1), (1, True), (1, 0), (1, -1), (3, 0), (None, 1), (0, None), ("0", 1),
            (0.0, 1), (0, 1.0), (0,), (), (0, 1, 1), [0, 1], {0: 1}, None, 0, 1, "01", True, "", (4, 2), (-1, -1),
        ):
            self.chart(False, KEPT, STORM, ALWAYS, mean, flat)
            self.chart(False, LONG, CALM, self.RULE, mean, self.CHART)
        self.chart(True, KEPT, STORM, ALWAYS, (0, 1), flat)
        self.chart(True, KEPT, STORM, ALWAYS, (1, 1), flat)
        self.chart(True, KEPT, STORM, ALWAYS, (1, 60), flat)

    def test_other_things(self):
        for thing in OTHER_THINGS + (tuple(self.CHART.items()), list(self.CHART.items()), list(self.CHART), (self.CHART,)):
            self.assertIs(is_chart(LONG, CALM, self.RULE, (3, 4), thing), False)


class Laps(CostCase):
    RULE = driving(LONG, CALM)
    # Late on each of the two rides.
    ROUND = (STAYS, STAYS, STAYS, COMES) * 2
    PROMPT = (STAYS, STAYS, COMES) * 2

    def test_to_the_sign(self):
        self.lap(True, LONG, CALM, self.RULE, (3, 4), ((), self.ROUND))
        self.lap(True, LONG, CALM, self.RULE, (2, 3), ((), self.PROMPT))
        self.lap(True, LONG, CALM, self.RULE, (5, 7), ((), (STAYS, STAYS, STAYS, COMES, STAYS, STAYS, COMES)))
        self.lap(True, LONG, CALM, self.RULE, (3, 4), ((STAYS,), (STAYS, STAYS, COMES, STAYS) * 2))
        self.lap(True, LONG, CALM, self.RULE, (3, 4), (self.PROMPT + (STAYS, STAYS), (STAYS, COMES, STAYS, STAYS) * 4))
        self.lap(True, KEPT, STORM, ALWAYS, (0, 1), ((COMES,), (COMES,) * 6))

    def test_other_means(self):
        for mean in ((2, 3), (1, 1), (0, 1), (5, 7), (3, 5), (4, 3), (-3, 4)):
            self.lap(False, LONG, CALM, self.RULE, mean, ((), self.ROUND))
        self.lap(False, KEPT, STORM, ALWAYS, (1, 1), ((COMES,), (COMES,) * 6))

    def test_it_leads_back(self):
        for many in range(1, 8):
            self.lap(False, LONG, CALM, self.RULE, (3, 4), ((), self.ROUND[:many]))
            self.lap(False, KEPT, STORM, ALWAYS, (0, 1), ((COMES,), (COMES,) * (many if many < 6 else many + 1)))
        # The beginning is never come to again: no lap is there.
        for many in range(1, 20):
            self.lap(False, KEPT, STORM, ALWAYS, (0, 1), ((), (COMES,) * many))

    def test_the_standing_where_it_begins_counts_once(self):
        # With the tick ahead of it counted, or without the last one, the mean would be another one.
        self.lap(True, LONG, CALM, self.RULE, (2, 3), ((STAYS, STAYS, COMES, STAYS), (STAYS, COMES, STAYS) * 2))

    def test_no_answers(self):
        for mean in ((0, 1), (3, 4), (1, 1)):
            self.lap(False, LONG, CALM, self.RULE, mean, ((), ()))
            self.lap(False, LONG, CALM, self.RULE, mean, (self.ROUND, ()))

    def test_a_way_that_does_not_lead_there(self):
        self.lap(False, LONG, CALM, self.RULE, (3, 4), ((COMES,), self.ROUND))
        self.lap(False, LONG, CALM, self.RULE, (3, 4), ((STAYS,), self.ROUND))
        self.lap(False, LONG, CALM, self.RULE, (3, 4), ((STAYS, STAYS, STAYS, STAYS), self.ROUND))
        self.lap(False, KEPT, STORM, ALWAYS, (0, 1), ((COMES, STAYS), (COMES,) * 6))
        self.lap(False, KEPT, STORM, ALWAYS, (0, 1), ((None,), (COMES,) * 6))

    def test_answers_that_can_not_be(self):
        for answer in (
            None, (), 0, (0, (True,)), [0, (True,), None], (1, (True,), None), (-1, (True,), None), (False, (True,), None), (0, (1,), None), (0, (), None),
            (0, [True], None), (0, (True,), 0), (0, True, None), (0, (True,), False), STAYS,
        ):
            for place in range(7):
                answers = [COMES] * 7
                answers[place] = answer
                self.lap(False, KEPT, STORM, ALWAYS, (0, 1), (tuple(answers[:1]), tuple(answers[1:])))

    def test_means(self):
        for mean in (
            (6, 8), (9, 12), (3, 0), (3, -4), (-3, -4), (3, True), (True, 1), (3.0, 4), (3, 4.0), ("3", 4), (3, None), (3,), (3, 4, 1), [3, 4], None, 0, "34",
        ):
            self.lap(False, LONG, CALM, self.RULE, mean, ((), self.ROUND))
        for mean in ((0, 2), (False, 1), (0, True), (0, 0), (0, -1)):
            self.lap(False, KEPT, STORM, ALWAYS, mean, ((COMES,), (COMES,) * 6))

    def test_drawn_changes(self):
        rng = random.Random(22)
        for city, sky, rule in kept_worlds(40):
            mean, _, (way, lap) = dearest(city, sky, rule)
            answers = list(way + lap)
            place = rng.randrange(len(answers))
            begins = [beginning(city, sky)]
            for answer in answers[:place]:
                begins.append(slow.behind(city, sky, begins[-1], rule[begins[-1]], answer))
            answers[place] = rng.choice(slow.answers(city, sky, begins[-1], rule[begins[-1]]))
            thing = (tuple(answers[:len(way)]), tuple(answers[len(way):]))
            self.lap(self.goes(city, sky, rule, mean, thing), city, sky, rule, mean, thing)

    def goes(self, city, sky, rule, mean, thing):
        try:
            self.goes_round(city, sky, rule, mean, thing)
        except AssertionError:
            return False
        return True

    def test_other_things(self):
        for thing in OTHER_THINGS + (
            ((), list(self.ROUND)), ([], self.ROUND), [(), self.ROUND], ((), self.ROUND, ()), (self.ROUND,), self.ROUND, ((), None), (None, self.ROUND),
            ("", self.ROUND), ((), "x"), ((), {STAYS: 1}), ({}, self.ROUND),
        ):
            self.assertIs(is_lap(LONG, CALM, self.RULE, (3, 4), thing), False)


if __name__ == "__main__":
    unittest.main()
