"""[12] Forecasts."""

import copy
import unittest

from snowsure.cities import arcs_of, is_sky
from snowsure.errors import TooMany
from snowsure.fewest import with_rules as ruled
from snowsure.forecasts import least_forecast, told_ahead, with_forecast
from snowsure.games import verdict
from snowsure.kinds import is_name
from snowsure.papers import is_rule, is_weather
from tests.samples import FAIR, TOWN, WORSE, empty_town, quiet_town, small_worlds

# With one tick told ahead, and with two: who knows where it will snow can be there.
FORK = (
    ("a", "b", "c", "d"),
    (("s0", "a", "b", 1, 1, 1, ((0, 1),)), ("s1", "b", "c", 1, 1, 9, ()), ("s2", "c", "d", 1, 2, 1, ((0, 1),))),
    (("ann", "b"),),
    (1, 0, 0),
)
FORK_SKY = ("h", (("h", (("l1", ()), ("r1", ()))), ("l1", (("h", ("s0",)),)), ("r1", (("r2", ("s2",)),)), ("r2", (("h", ()),))))
LONG_FORK = (
    ("a", "b", "c", "d", "e"),
    (("s0", "a", "b", 1, 1, 1, ((0, 1),)), ("s1", "b", "c", 1, 1, 9, ()), ("s2", "c", "d", 1, 1, 9, ()), ("s3", "d", "e", 1, 2, 1, ((0, 1),))),
    (("ann", "b"),),
    (1, 0, 0),
)
LONG_FORK_SKY = (
    "h",
    (
        ("h", (("l1", ()), ("r1", ()))), ("l1", (("l2", ("s0",)),)), ("l2", (("w1", ("s0",)),)), ("r1", (("w1", ("s3",)),)),
        ("w1", (("w2", ()),)), ("w2", (("h", ()),)),
    ),
)


def around(states):
    """A sky that goes round some states."""
    return "s0", tuple((f"s{k}", ((f"s{(k + 1) % states}", ()),)) for k in range(states))


def fan(here, there, ahead=1):
    """A sky of which the first state has some arcs to x, of so many arcs, and some to y, of one arc."""
    first = (("x", ()),) * ahead + (("y", ()),) * here
    return "f", (("f", first), ("x", (("y", ()),) * there), ("y", (("y", ()),)))


def falls(sky, ticks):
    """All that may fall on so many ticks: tuples of the streets, each ascending."""
    ways = {((), sky[0])}
    for _ in range(ticks):
        ways = {
            (fallen + (tuple(sorted(streets)),), behind)
            for fallen, state in ways
            for behind, streets in dict(sky[1])[state]
        }
    return {fallen for fallen, _ in ways}


def told_pairs(sky):
    """The pairs of a state and one of its arcs' numbers that may be told."""
    table = dict(sky[1])
    seen = set()
    todo = [behind for behind, _ in table[sky[0]]]
    while todo:
        state = todo.pop()
        for number, (behind, _) in enumerate(table[state]):
            if (state, number) not in seen:
                seen.add((state, number))
                todo.append(behind)
    return seen


class Told(unittest.TestCase):
    def matched(self, sky, told):
        """Whether the states of a sky can be those that are told ahead of another one: greatest lots of what each may be."""
        table, ahead = dict(sky[1]), dict(told[1])
        pairs = told_pairs(sky)
        may = {name: {pair for pair in pairs} for name in ahead if name != told[0]}
        changed = True
        while changed:
            changed = False
            for name in may:
                for state, number in list(may[name]):
                    behind, streets = table[state][number]
                    arcs = ahead[name]
                    good = len(arcs) == len(table[behind])
                    good = good and all(sorted(fallen) == sorted(streets) and after != told[0] for after, fallen in arcs)
                    good = good and all(
                        any((behind, k) in may[after] for after, _ in arcs) for k in range(len(table[behind]))
                    )
                    if not good:
                        may[name].discard((state, number))
                        changed = True
        return may

    def check(self, sky):
        before = copy.deepcopy(sky)
        told = told_ahead(sky)
        self.assertEqual(sky, before)
        self.assertEqual(told, told_ahead(sky))
        self.assertEqual(len(told[1]), 1 + len(told_pairs(sky)))
        table, ahead = dict(sky[1]), dict(told[1])
        self.assertEqual(len(ahead), len(told[1]))
        self.assertTrue(all(is_name(name) for name in ahead))
        self.assertEqual(len(ahead[told[0]]), sum(len(table[behind]) for behind, _ in table[sky[0]]))
        self.assertFalse([name for name, arcs in told[1] for behind, _ in arcs if behind == told[0]])
        for name, arcs in told[1]:
            if name != told[0]:
                self.assertEqual(len({tuple(sorted(streets)) for _, streets in arcs}), 1, "only its own arc falls")
        may = self.matched(sky, told)
        self.assertTrue(all(may.values()))
        for ticks in range(6):
            self.assertEqual(falls(told, ticks), falls(sky, ticks))
        return told

    def test_the_fair_sky(self):
        told = self.check(FAIR)
        self.assertTrue(is_sky(TOWN, told))
        self.assertEqual(len(told[1]), 4)
        table = dict(told[1])
        first = table[told[0]]
        self.assertEqual(sorted(streets for _, streets in first), [(), (), ("hill",)])
        after_snow = [behind for behind, streets in first if streets]
        self.assertEqual([streets for _, streets in table[after_snow[0]]], [(), ()])

    def test_small_skies(self):
        many = 0
        for city, sky in small_worlds(80):
            try:
                told_ahead(sky)
            except TooMany:
                continue
            self.assertTrue(is_sky(city, self.check(sky)))
            many += 1
        self.assertGreater(many, 60)

    def test_what_can_not_be_come_to_is_left_out(self):
        sky = ("a", (("b", (("b", ("hill",)), ("a", ()))), ("a", (("c", ()),)), ("c", (("c", ("hill",)),)), ("d", (("a", ()),) * 9)))
        told = self.check(sky)
        self.assertEqual(len(told[1]), 2)
        self.assertEqual(falls(told, 3), {((), ("hill",), ("hill",))})

    def test_the_first_state_is_come_to_again(self):
        told = self.check(("a", (("a", (("a", ("hill",)), ("a", ()))),)))
        self.assertEqual(sorted(len(arcs) for _, arcs in told[1]), [2, 2, 4])

    def test_a_sky_of_one_arc(self):
        told = self.check(("a", (("a", (("a", ("hill",)),)),)))
        self.assertEqual(len(told[1]), 2)

    def test_arcs_that_are_the_same(self):
        told = self.check(("a", (("a", (("a", ("hill",)),) * 3),)))
        self.assertEqual(sorted(len(arcs) for _, arcs in told[1]), [3, 3, 3, 9])

    def test_thirty_states(self):
        self.assertEqual(len(self.check(around(29))[1]), 30)
        for sky in (around(30), ("s0", around(29)[1][:-1] + (("s28", (("s0", ()), ("s0", ()))),))):
            with self.assertRaises(TooMany) as caught:
                told_ahead(sky)
            self.assertEqual(caught.exception.most, 30)

    def test_thirty_states_of_which_some_can_not_be_come_to(self):
        first, states = around(29)
        self.assertEqual(len(told_ahead((first, states + (("lost", (("lost", ()),)),)))[1]), 30)

    def test_twelve_arcs(self):
        self.assertEqual(len(dict(self.check(fan(0, 12))[1])[told_ahead(fan(0, 12))[0]]), 12)
        self.assertEqual(len(dict(self.check(fan(4, 4, 2))[1])[told_ahead(fan(4, 4, 2))[0]]), 12)
        self.assertEqual(len(dict(self.check(fan(12, 1, 0))[1])[told_ahead(fan(12, 1, 0))[0]]), 12)
        for sky in (fan(1, 12), fan(5, 4, 2), fan(7, 3, 2), fan(0, 7, 2)):
            with self.assertRaises(TooMany) as caught:
                told_ahead(sky)
            self.assertEqual(caught.exception.most, 12)

    def test_twelve_arcs_at_another_state(self):
        sky = ("f", (("f", (("g", ()),)), ("g", (("x", ()),)), ("x", (("g", ()),) * 12)))
        told = self.check(sky)
        self.assertEqual(sorted(len(arcs) for _, arcs in told[1]), [1] * 13 + [12])

    def test_both(self):
        states = tuple((f"s{k}", ((f"s{(k + 1) % 8}", ()),) * 5) for k in range(8))
        with self.assertRaises(TooMany) as caught:
            told_ahead(("s0", states))
        self.assertIn(caught.exception.most, (12, 30))


class Forecasts(unittest.TestCase):
    def test_no_tick(self):
        for sky in (FAIR, around(30), fan(1, 12)):
            self.assertEqual(with_forecast(sky, 0), sky)

    def test_one_tick(self):
        for sky in (FAIR, around(29), fan(0, 12)):
            self.assertEqual(with_forecast(sky, 1), told_ahead(sky))

    def test_two_ticks_and_more(self):
        before = copy.deepcopy(FAIR)
        two = with_forecast(FAIR, 2)
        self.assertEqual(FAIR, before)
        self.assertEqual(two, told_ahead(told_ahead(FAIR)))
        self.assertEqual(with_forecast(FAIR, 3), told_ahead(two))
        for ticks in range(4):
            told = with_forecast(FAIR, ticks)
            self.assertTrue(is_sky(TOWN, told))
            self.assertTrue(all(1 <= len(name) <= 8 and is_name(name) for name, _ in told[1]))
            for many in range(7):
                self.assertEqual(falls(told, many), falls(FAIR, many))

    def test_names_do_not_grow(self):
        told = with_forecast(around(1), 40)
        self.assertTrue(is_sky(empty_town(1), told))
        self.assertEqual(len(told[1]), 2)
        self.assertTrue(all(is_name(name) for name, _ in with_forecast(around(29), 1)[1]))

    def test_two_ticks_are_known(self):
        # Behind the first ticks there is but one way of falling on this tick and the next one.
        told = with_forecast(LONG_FORK_SKY, 2)
        beyond = {told[0]} | {behind for behind, _ in arcs_of(told, told[0])}
        for name, _ in told[1]:
            if name not in beyond:
                self.assertEqual(len(falls((name, told[1]), 2)), 1)

    def test_too_many(self):
        for ticks, most in ((1, 30), (2, 30), (9, 30)):
            with self.assertRaises(TooMany) as caught:
                with_forecast(around(30), ticks)
            self.assertEqual(caught.exception.most, most)
        with self.assertRaises(TooMany) as caught:
            with_forecast(fan(1, 12), 1)
        self.assertEqual(caught.exception.most, 12)
        # Three arcs are nine, these are twenty-seven.
        sky = ("a", (("a", (("a", ("hill",)), ("a", ()), ("a", ()))),))
        self.assertEqual(len(with_forecast(sky, 1)[1]), 4)
        with self.assertRaises(TooMany) as caught:
            with_forecast(sky, 2)
        self.assertEqual(caught.exception.most, 12)


class Least(unittest.TestCase):
    def check(self, ticks, city, sky, most):
        before = copy.deepcopy((city, sky))
        told = least_forecast(city, sky, most)
        self.assertEqual((city, sky), before)
        self.assertIsInstance(told, tuple)
        self.assertEqual((len(told), told[0]), (3, ticks))
        self.assertTrue(is_rule(city, with_forecast(sky, ticks), told[1]))
        if ticks == 0:
            self.assertIsNone(told[2])
        else:
            self.assertTrue(is_weather(city, with_forecast(sky, ticks - 1), told[2]))

    def test_none_needed(self):
        for most in range(3):
            self.check(0, TOWN, FAIR, most)

    def test_one(self):
        self.assertIsNone(least_forecast(FORK, FORK_SKY, 0))
        for most in (1, 2, 5):
            self.check(1, FORK, FORK_SKY, most)

    def test_two(self):
        self.assertIsNone(least_forecast(LONG_FORK, LONG_FORK_SKY, 0))
        self.assertIsNone(least_forecast(LONG_FORK, LONG_FORK_SKY, 1))
        for most in (2, 3):
            self.check(2, LONG_FORK, LONG_FORK_SKY, most)

    def test_no_forecast_is_enough(self):
        for most in range(3):
            self.assertIsNone(least_forecast(WORSE, FAIR, most))

    def test_against_verdicts(self):
        for city, sky in small_worlds(40):
            words = []
            try:
                for ticks in range(3):
                    words.append(verdict(city, with_forecast(sky, ticks))[0])
            except TooMany as error:
                words.append(error.most)
            if "promised" in words:
                ticks = words.index("promised")
                # What can be promised can be promised with a forecast.
                self.assertEqual(set(words[ticks:]) - {30, 12, 1000}, {"promised"})
                self.check(ticks, city, sky, 2)
            elif words == ["beaten"] * 3:
                self.assertIsNone(least_forecast(city, sky, 2))
            else:
                with self.assertRaises(TooMany) as caught:
                    least_forecast(city, sky, 2)
                self.assertEqual(caught.exception.most, words[-1])

    def test_too_many_of_the_first_that_is_needed(self):
        # 1,001 standings under the sky itself.
        with self.assertRaises(TooMany) as caught:
            least_forecast(ruled(quiet_town(60, 9, 1), 0, 0), around(17), 0)
        self.assertEqual(caught.exception.most, 1000)
        # The sky itself will do, so that nobody asks for a forecast that would be too much.
        self.check(0, empty_town(1), around(30), 2)
        self.check(0, empty_town(1), fan(1, 12), 2)
        # It won't do, and the first forecast is too much.
        shut = (("a", "b"), (("hill", "a", "b", 1, 1, 0, ((0, 1),)),), (("ann", "a"),), (1, 0, 0))
        snowy = ("f", (("f", (("x", ("hill",)), ("y", ("hill",)))), ("x", (("y", ()),) * 12), ("y", (("y", ()),))))
        self.assertIsNone(least_forecast(shut, snowy, 0))
        with self.assertRaises(TooMany) as caught:
            least_forecast(shut, snowy, 1)
        self.assertEqual(caught.exception.most, 12)
        first, states = around(30)
        snowy = (first, tuple((name, tuple((behind, ("hill",)) for behind, _ in arcs)) for name, arcs in states))
        self.assertIsNone(least_forecast(shut, snowy, 0))
        with self.assertRaises(TooMany) as caught:
            least_forecast(shut, snowy, 1)
        self.assertEqual(caught.exception.most, 30)


if __name__ == "__main__":
    unittest.main()
