"""[5] Verdicts, gone through by a second telling of the document's words."""

import unittest

from snowsure.cities import is_city, is_sky
from snowsure.errors import SnowError, TooMany
from snowsure.games import standings_of, verdict
from snowsure.world import is_standing
from tests import slow
from tests.samples import FAIR, HILL, PAIR, TOWN, WORSE, clear_sky, empty_town, quiet_town, small_worlds, with_rules


class Verdicts(unittest.TestCase):
    def shown(self, city, sky):
        """The verdict's word, its paper being gone through."""
        told = verdict(city, sky)
        self.assertIsInstance(told, tuple)
        self.assertEqual(len(told), 2)
        word, paper = told
        self.assertIn(word, ("promised", "beaten"))
        self.assertIs(type(paper), dict)
        good, seen = (slow.keeps if word == "promised" else slow.beats)(city, sky, paper)
        self.assertTrue(good)
        self.assertEqual(set(paper), seen)
        for standing in paper:
            self.assertTrue(is_standing(city, sky, standing))
        if word == "beaten":
            for rank, answers in paper.values():
                self.assertTrue(type(rank) is int and rank >= 0 and type(answers) is dict)
        return word

    def test_the_sample(self):
        self.assertEqual(self.shown(TOWN, FAIR), "promised")
        self.assertEqual(self.shown(WORSE, FAIR), "beaten")

    def test_a_pair(self):
        self.assertEqual(self.shown(with_rules(PAIR, 3, 1, 0), FAIR), "promised")
        self.assertEqual(self.shown(PAIR, FAIR), "promised")
        self.assertEqual(self.shown(with_rules(PAIR, 3, 1, 2), FAIR), "beaten")

    def test_a_street_that_bears_all(self):
        never_asked = TOWN[:1] + ((HILL[:6] + ((),),),) + TOWN[2:]
        self.assertEqual(self.shown(never_asked, FAIR), "promised")

    def test_a_street_that_bears_nothing(self):
        storm = ("s", (("s", (("s", ("hill",)),)),))
        city = (("a", "b"), (("hill", "a", "b", 1, 1, 0, ((0, 3),)),), (("ann", "a"),), (3, 0, 0))
        self.assertEqual(self.shown(city, storm), "beaten")
        city = (("a", "b"), (("hill", "a", "b", 1, 1, 1, ((0, 3),)),), (("ann", "a"),), (3, 0, 0))
        self.assertEqual(self.shown(city, storm), "promised")
        self.assertEqual(self.shown(with_rules(city, 3, 1, 0), storm), "beaten")
        self.assertEqual(self.shown(with_rules(city, 3, 0, 1), storm), "beaten")

    def test_no_streets(self):
        self.assertEqual(self.shown(empty_town(4), ("x", (("x", (("x", ()),)),))), "promised")

    def test_small_worlds(self):
        words = []
        for city, sky in small_worlds(220):
            told = slow.reached(city, sky, 250)
            if told is not None:
                self.assertEqual(standings_of(city, sky), sorted(told[0]))
                words.append(self.shown(city, sky))
                self.assertEqual(words[-1] == "promised", slow.can_keep(city, sky))
        self.assertGreater(words.count("promised"), 20)
        self.assertGreater(words.count("beaten"), 50)

    def test_equal_for_equal(self):
        for city, sky in ((TOWN, FAIR), (WORSE, FAIR)):
            first = verdict(city, sky)
            self.assertEqual(first, verdict(tuple(list(city)), tuple(list(sky))))
            self.assertEqual(list(first[1]), list(verdict(city, sky)[1]))
            first[1].clear()
            self.assertNotEqual(first, verdict(city, sky))


class Standings(unittest.TestCase):
    def test_ascending_and_each_once(self):
        told = standings_of(TOWN, FAIR)
        self.assertIsInstance(told, list)
        self.assertEqual(told, sorted(set(told)))
        self.assertEqual(set(told), slow.reached(TOWN, FAIR)[0])

    def test_nothing_is_looked_at_behind_a_closed_one(self):
        city = (("a", "b"), (("hill", "a", "b", 1, 1, 0, ((1, 2),)),), (("ann", "a"),), (60, 0, 0))
        storm = ("s", (("s", (("s", ("hill",)),)),))
        told = standings_of(city, storm)
        self.assertEqual([standing[0] for standing in told], [0, 1, 1])
        self.assertEqual([slow.closed(city, standing) for standing in told], [(), ("hill",), ("hill",)])
        self.assertEqual(verdict(city, storm)[0], "beaten")


class Limits(unittest.TestCase):
    def in_all(self, city, sky):
        self.assertTrue(is_city(city) and is_sky(city, sky))
        standings, triples = slow.reached(city, sky)
        return len(standings), triples

    def too_many(self, city, sky):
        for call in (verdict, standings_of):
            with self.assertRaises(TooMany) as caught:
                call(city, sky)
            self.assertEqual(caught.exception.most, 1000)
            self.assertIsInstance(caught.exception, SnowError)

    def test_1000_standings(self):
        city, sky = empty_town(40), clear_sky(25)
        self.assertEqual(self.in_all(city, sky), (1000, 2000))
        self.assertEqual(len(standings_of(city, sky)), 1000)
        self.assertEqual((verdict(city, sky)[0], len(verdict(city, sky)[1])), ("promised", 1000))

    def test_1001_standings(self):
        city, sky = empty_town(40), clear_sky(25, 2, 1)
        self.assertEqual(self.in_all(city, sky), (1001, 2001))
        self.too_many(city, sky)

    def test_closed_standings_count(self):
        # It may snow on each tick, and the hill may then be closed in each state at the day's last one.
        for day, states, counts in ((10, 25, (1000, 950)), (13, 20, (1040, 1000))):
            hill = ("hill", "a", "b", 1, 1, 0, ((day - 1, day),))
            city = (("a", "b"), (hill,), (("ann", "a"),), (day, 0, 0))
            first, rows = clear_sky(states)
            sky = (first, tuple((state, arcs + ((state, ("hill",)),)) for state, arcs in rows))
            told, _ = slow.reached(city, sky)
            still_open = [standing for standing in told if not slow.closed(city, standing)]
            self.assertEqual((len(told), len(still_open)), counts)
            if counts[0] > 1000:
                self.too_many(city, sky)
            else:
                self.assertEqual(standings_of(city, sky), sorted(told))

    def test_40000_triples(self):
        city, sky = quiet_town(20, 20, 2), clear_sky(20, 10)
        self.assertEqual(self.in_all(city, sky), (800, 40000))
        self.assertEqual(len(standings_of(city, sky)), 800)
        self.assertEqual(verdict(city, sky)[0], "promised")

    def test_40005_triples(self):
        city, sky = quiet_town(20, 20, 2), clear_sky(20, 10, 1)
        self.assertEqual(self.in_all(city, sky), (801, 40005))
        self.too_many(city, sky)

    def test_40001_triples(self):
        # One plough goes to and fro, one stands apart, one may break down; the first state has 8 arcs, the others 109.
        rows = tuple((f"r{number}", "a", "b", 1, 1, 9, ()) for number in range(4))
        city = (("a", "b", "c"), rows, (("ann", "a"), ("bob", "c")), (5, 0, 1))
        names = [f"s{number}" for number in range(10)]

        def sky(first_arcs):
            states = [("e0", (("s0", ()),) * first_arcs)]
            for number, name in enumerate(names):
                arcs = ((name, ()), (names[(number + 1) % 10], ()))
                states.append((name, arcs + arcs[:1] * (8 if number == 0 else 9)))
            return ("e0", tuple(states))

        self.assertEqual(self.in_all(city, sky(7)), (251, 39974))
        self.assertEqual(len(standings_of(city, sky(7))), 251)
        self.assertEqual(self.in_all(city, sky(8)), (251, 40001))
        self.too_many(city, sky(8))

    def test_comings_and_breakdowns_count(self):
        city = (("a", "b"), (("r0", "a", "b", 2, 2, 9, ()),), (("ann", "a"), ("bob", "b")), (6, 1, 2))
        self.assertEqual(self.in_all(city, clear_sky(1, 6)), (726, 37620))
        self.assertEqual(len(standings_of(city, clear_sky(1, 6))), 726)
        self.assertEqual(self.in_all(city, clear_sky(1, 7)), (726, 43890))
        self.too_many(city, clear_sky(1, 7))
        for day, standings in ((8, 968), (9, 1089)):
            longer = with_rules(city, day, 1, 2)
            self.assertEqual(self.in_all(longer, clear_sky(1))[0], standings)
        self.assertEqual(len(standings_of(with_rules(city, 8, 1, 2), clear_sky(1))), 968)
        self.too_many(with_rules(city, 9, 1, 2), clear_sky(1))

    def test_a_city_with_millions_of_orders_is_told_at_once(self):
        rows = tuple((f"r{number}", "a", "b", 1, 1, 9, ()) for number in range(20))
        ploughs = tuple((f"p{number}", "a") for number in range(4))
        self.too_many((("a", "b"), rows, ploughs, (60, 5, 4)), clear_sky(30, 12))


if __name__ == "__main__":
    unittest.main()
