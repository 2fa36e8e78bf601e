"""[7] Runs."""

import copy
import unittest

from snowsure.errors import BadOrders
from snowsure.games import verdict
from snowsure.runs import first_closed, kept_up, met, run
from snowsure.world import answers_of, beginning, closed_streets, follow, followers, orders_of
from tests import slow
from tests.samples import FAIR, OTHER_THINGS, PAIR, TOWN, WORSE, small_worlds

RULE = verdict(TOWN, FAIR)[1]
WEATHER = verdict(WORSE, FAIR)[1]
START = beginning(TOWN, FAIR)
STEP = ((("hill", True),), (1, (False,), None))


class Runs(unittest.TestCase):
    def test_no_step(self):
        self.assertEqual(run(TOWN, FAIR, ()), (START,))

    def test_steps(self):
        steps = (STEP, ((None,), (0, (True,), None)), ((("hill", False),), (1, (True,), None)))
        wanted = [START]
        for orders, answer in steps:
            wanted.append(slow.behind(TOWN, FAIR, wanted[-1], orders, answer))
        self.assertEqual(run(TOWN, FAIR, steps), tuple(wanted))
        self.assertEqual(run(TOWN, FAIR, steps)[-1], (0, "wet", (1,), (("at", "a"),), 0))
        self.assertIsInstance(run(TOWN, FAIR, steps), tuple)

    def test_many_steps(self):
        steps = []
        standing = START
        for number in range(300):
            orders = orders_of(TOWN, standing)[number % len(orders_of(TOWN, standing))]
            answers = answers_of(TOWN, FAIR, standing, orders)
            steps.append((orders, answers[number % len(answers)]))
            standing = slow.behind(TOWN, FAIR, standing, *steps[-1])
        told = run(TOWN, FAIR, tuple(steps))
        self.assertEqual((len(told), told[0], told[-1]), (301, START, standing))

    def test_a_run_goes_on_behind_closed_standings(self):
        snowing = ((None,), (1, (False,), None))
        clear = ((None,), (0, (False,), None))
        told = run(TOWN, FAIR, (snowing, clear, snowing, clear, snowing))
        self.assertEqual([closed_streets(TOWN, standing) for standing in told], [(), (), (), ("hill",), (), ()])

    def test_bad_orders(self):
        for orders in (None, (), [None], (("nowhere", True),), (("hill", 1),), (None, None)):
            with self.assertRaises(BadOrders) as caught:
                run(TOWN, FAIR, ((orders, (0, (False,), None)),))
            self.assertIs(caught.exception.thing, orders)
        riding = (("hill", True),)
        with self.assertRaises(BadOrders) as caught:
            run(TOWN, FAIR, (STEP, (riding, (0, (True,), None))))
        self.assertIs(caught.exception.thing, riding)

    def test_bad_answers(self):
        for answer in (None, (), (2, (False,), None), (True, (False,), None), (0, (True,), None), (0, (False,), 0), [0, (False,), None]):
            with self.assertRaises(BadOrders) as caught:
                run(TOWN, FAIR, (STEP, ((None,), (0, (True,), None)), ((None,), answer), (None, None)))
            self.assertIs(caught.exception.thing, answer)


class FirstClosed(unittest.TestCase):
    def test_by_its_number(self):
        closed = (0, "dry", (2,), (("at", "a"),), 0)
        later = (1, "dry", (2,), (("at", "a"),), 0)
        self.assertEqual(first_closed(TOWN, (closed,)), (0, ("hill",)))
        self.assertEqual(first_closed(TOWN, (START, later, closed, START, closed)), (2, ("hill",)))
        self.assertEqual(first_closed(TOWN, [START, closed]), (1, ("hill",)))

    def test_none(self):
        self.assertIsNone(first_closed(TOWN, ()))
        self.assertIsNone(first_closed(TOWN, (START, (1, "dry", (2,), (("at", "a"),), 0))))

    def test_all_closed_streets(self):
        city = (("a", "b"), (("s0", "a", "b", 1, 1, 0, ((0, 1),)), ("s1", "a", "b", 1, 1, 0, ((0, 1),))), (("ann", "a"),), (1, 0, 0))
        self.assertEqual(first_closed(city, ((0, "x", (1, 1), (("at", "a"),), 0),)), (0, ("s0", "s1")))
        self.assertEqual(first_closed(city, ((0, "x", (0, 1), (("at", "a"),), 0),)), (0, ("s1",)))


class Met(unittest.TestCase):
    def shown(self, city, sky, rule, weather):
        steps = met(city, sky, rule, weather)
        self.assertIsInstance(steps, tuple)
        standings = run(city, sky, steps)
        self.assertEqual(first_closed(city, standings)[0], len(steps))
        for standing, (orders, answer) in zip(standings, steps):
            self.assertEqual(orders, rule.get(standing, (None,) * len(city[2])))
            self.assertEqual(answer, weather[standing][1][orders])
        self.assertLessEqual(len(steps), weather[standings[0]][0])

    def test_rules_that_tell_no_orders(self):
        self.shown(WORSE, FAIR, {}, WEATHER)
        self.shown(WORSE, FAIR, {(0, "wet", (0,), (("at", "a"),), 0): (("hill", True),), "x": 5}, WEATHER)
        both = PAIR[:3] + ((3, 1, 2),)
        self.shown(both, FAIR, {}, verdict(both, FAIR)[1])

    def test_rules_that_tell_other_orders(self):
        for which in range(3):
            rule = {}
            for standing in slow.formed(WORSE, FAIR):
                orders = orders_of(WORSE, standing)
                rule[standing] = orders[which % len(orders)]
            self.shown(WORSE, FAIR, rule, WEATHER)
        self.shown(WORSE, FAIR, RULE, WEATHER)

    def test_orders_that_the_weather_does_not_answer(self):
        first = beginning(WORSE, FAIR)
        for orders in ((("nowhere", True),), (("hill", 1),), None, (), [None], (["hill", True],), (None, None), {}, 5, "hill", (("hill", True, 1),)):
            with self.assertRaises(BadOrders) as caught:
                met(WORSE, FAIR, {first: orders}, WEATHER)
            self.assertIs(caught.exception.thing, orders)

    def test_a_weather_that_lacks_an_answer(self):
        first = beginning(WORSE, FAIR)
        rank, answers = WEATHER[first]
        for orders in answers:
            few = {other: answers[other] for other in answers if other != orders}
            with self.assertRaises(BadOrders) as caught:
                met(WORSE, FAIR, {first: orders}, {**WEATHER, first: (rank, few)})
            self.assertIs(caught.exception.thing, orders)

    def test_later_orders_that_the_weather_does_not_answer(self):
        steps = met(WORSE, FAIR, {}, WEATHER)
        last = run(WORSE, FAIR, steps)[-2]
        wrong = (("nowhere", False),)
        with self.assertRaises(BadOrders) as caught:
            met(WORSE, FAIR, {last: wrong}, WEATHER)
        self.assertIs(caught.exception.thing, wrong)

    def test_answers_to_orders_that_cannot_be_given_count_for_nothing(self):
        first = beginning(WORSE, FAIR)
        wrong = (("nowhere", True),)
        rank, answers = WEATHER[first]
        weather = {**WEATHER, first: (rank, {**answers, wrong: (0, (False,), None)})}
        with self.assertRaises(BadOrders) as caught:
            met(WORSE, FAIR, {first: wrong}, weather)
        self.assertIs(caught.exception.thing, wrong)

    def test_small_worlds(self):
        beaten = 0
        for city, sky in small_worlds(60):
            if slow.reached(city, sky, 150) is None or verdict(city, sky)[0] == "promised":
                continue
            weather = verdict(city, sky)[1]
            beaten += 1
            self.shown(city, sky, {}, weather)
            rule = {standing: orders_of(city, standing)[-1] for standing in weather}
            self.shown(city, sky, rule, weather)
        self.assertGreater(beaten, 20)


class KeptUp(unittest.TestCase):
    def told(self, city, sky, rule, answers):
        standings = [slow.start(city, sky)]
        for number in answers:
            orders = rule[standings[-1]]
            possible = slow.answers(city, sky, standings[-1], orders)
            standings.append(slow.behind(city, sky, standings[-1], orders, possible[number % len(possible)]))
        return tuple(standings)

    def test_no_answer(self):
        self.assertEqual(kept_up(TOWN, FAIR, RULE, ()), (START,))

    def test_answers_by_their_numbers(self):
        orders = RULE[START]
        pairs = followers(TOWN, FAIR, START, orders)
        for number in range(3 * len(pairs) + 1):
            told = kept_up(TOWN, FAIR, RULE, (number,))
            self.assertEqual(told, (START, pairs[number % len(pairs)][1]))
            self.assertEqual(told[1], follow(TOWN, FAIR, START, orders, pairs[number % len(pairs)][0]))

    def test_great_numbers(self):
        answers = tuple(7 ** number + number for number in range(90)) + (10**40, 10**40 + 1)
        told = kept_up(TOWN, FAIR, RULE, answers)
        self.assertEqual(told, self.told(TOWN, FAIR, RULE, answers))
        self.assertEqual(len(told), 93)
        self.assertIsNone(first_closed(TOWN, told))

    def test_small_worlds(self):
        for city, sky in small_worlds(60):
            if slow.reached(city, sky, 150) is None or verdict(city, sky)[0] == "beaten":
                continue
            rule = verdict(city, sky)[1]
            answers = tuple(number * number + 1 for number in range(40))
            told = kept_up(city, sky, rule, answers)
            self.assertEqual(told, self.told(city, sky, rule, answers))
            self.assertIsNone(first_closed(city, told))


class ArgumentsStay(unittest.TestCase):
    def test_papers(self):
        rule, weather = copy.deepcopy(RULE), copy.deepcopy(WEATHER)
        met(WORSE, FAIR, rule, weather)
        kept_up(TOWN, FAIR, rule, (1, 2, 3))
        self.assertEqual((rule, weather), (RULE, WEATHER))

    def test_wrong_orders(self):
        for thing in OTHER_THINGS:
            if thing is not None:
                with self.assertRaises(BadOrders):
                    met(WORSE, FAIR, {beginning(WORSE, FAIR): thing}, WEATHER)


if __name__ == "__main__":
    unittest.main()
