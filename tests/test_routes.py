"""[9] Round trips, also against a search over all trips."""

import copy
import random
import unittest
from itertools import combinations

from snowsure.routes import (
    any_trip, balance_of, empty_way, hang_together, is_priced, is_tabled, is_trip, lanes_of, round_trip,
)
from tests.samples import OTHER_THINGS, RING

AB, BC, CA = ("ab", "a"), ("bc", "b"), ("ca", "c")
BA, CB, AC = ("ab", "b"), ("bc", "c"), ("ca", "a")

# Two parts that do not hang together, and two streets between the same junctions.
PARTS = (
    ("a", "b", "c", "d", "e"),
    (("ab", "a", "b", 5, 5, 0, ()), ("ba", "b", "a", 2, 9, 0, ()), ("cd", "c", "d", 1, 1, 0, ())),
    (("ann", "a"),),
    (1, 0, 0),
)


def streets_of(rows):
    return tuple((name, one, other, passing, 20, 0, ()) for name, one, other, passing in rows)


def random_city(rng, junctions, streets):
    names = [f"j{number}" for number in range(junctions)]
    rows = []
    for number in range(streets):
        one, other = rng.sample(names, 2)
        rows.append((f"s{number}", one, other, rng.randint(1, 9)))
    return (tuple(names), streets_of(rows), (("ann", "j0"),), (1, 0, 0))


def ends_of(city):
    """The search's own table of lanes."""
    table = {}
    for name, one, other, passing, *_ in city[1]:
        table[(name, one)] = (other, passing)
        table[(name, other)] = (one, passing)
    return table


def least_empty(city, home, lanes):
    """The least empty way of all trips: each order of the lanes, the shortest ways between; None without a trip."""
    table = ends_of(city)
    far = {(one, other): 0 if one == other else None for one in city[0] for other in city[0]}
    for _ in city[0]:
        for (name, one), (other, passing) in table.items():
            for start in city[0]:
                if far[start, one] is not None:
                    total = far[start, one] + passing
                    if far[start, other] is None or total < far[start, other]:
                        far[start, other] = total
    best = {(frozenset(), home): 0}
    for size in range(len(lanes)):
        for done in combinations(lanes, size):
            for here in city[0]:
                cost = best.get((frozenset(done), here))
                if cost is None:
                    continue
                for lane in lanes:
                    if lane not in done and far[here, lane[1]] is not None:
                        state = (frozenset(done) | {lane}, table[lane][0])
                        total = cost + far[here, lane[1]]
                        if state not in best or total < best[state]:
                            best[state] = total
    ended = [
        cost + far[here, home]
        for (done, here), cost in best.items()
        if done == frozenset(lanes) and far[here, home] is not None
    ]
    return min(ended, default=None)


def is_trip_as_told(city, home, lanes, trip):
    """The second telling of what a trip is, for tuples of triples."""
    table = ends_of(city)
    here = home
    for name, start, _ in trip:
        if start != here or (name, start) not in table:
            return False
        here = table[name, start][0]
    worked = [(name, start) for name, start, is_work in trip if is_work]
    return here == home and len(worked) == len(lanes) and set(worked) == set(lanes)


class Lanes(unittest.TestCase):
    def test_both_ways_round_of_each_street(self):
        self.assertEqual(lanes_of(RING), {
            AB: ("a", "b", 2), BA: ("b", "a", 2), BC: ("b", "c", 3), CB: ("c", "b", 3), CA: ("c", "a", 4), AC: ("a", "c", 4)})
        self.assertEqual(lanes_of(PARTS), {
            ("ab", "a"): ("a", "b", 5), ("ab", "b"): ("b", "a", 5), ("ba", "b"): ("b", "a", 2), ("ba", "a"): ("a", "b", 2),
            ("cd", "c"): ("c", "d", 1), ("cd", "d"): ("d", "c", 1)})
        self.assertEqual(lanes_of((("a",), (), (("ann", "a"),), (1, 0, 0))), {})


class Trips(unittest.TestCase):
    TRIP = (("ab", "a", True), ("bc", "b", True), ("ca", "c", False))

    def yes(self, lanes, trip, home="a", city=RING):
        self.assertIs(is_trip(city, home, lanes, trip), True, trip)

    def no(self, lanes, trip, home="a", city=RING):
        self.assertIs(is_trip(city, home, lanes, trip), False, trip)

    def test_trips(self):
        self.yes((AB, BC), self.TRIP)
        self.yes((BC, AB), self.TRIP)
        self.yes((), ())
        self.yes((), (), "c")
        self.yes((), (("ab", "a", False), ("ab", "b", False)))
        self.yes((AB, BA), (("ab", "a", True), ("ab", "b", True)))
        self.yes((BA, AB), (("ab", "b", True), ("ab", "a", True)), "b")
        self.yes((BC,), (("ab", "a", False), ("bc", "b", True), ("bc", "c", False), ("bc", "b", False), ("ca", "c", False)))

    def test_lanes_once_each_and_no_others(self):
        self.no((AB,), self.TRIP)
        self.no((AB, BC, CA), self.TRIP)
        self.no((AB, CA), self.TRIP)
        self.no((AB, CB), self.TRIP)
        self.no((), self.TRIP)
        self.no((AB, BC), ())
        self.no((AB, BA), (("ab", "a", True), ("ab", "b", True), ("ab", "a", True), ("ab", "b", False)))

    def test_steps_from_where_the_last_one_ended(self):
        self.no((AB, BC), self.TRIP[::-1])
        self.no((AB, BC), self.TRIP[:2])
        self.no((AB, BC), self.TRIP, "b")
        self.no((AB, CA), (("ab", "a", True), ("ca", "c", True)))
        self.no((), (("ab", "b", False),))
        self.no((), (("ab", "a", False),))
        self.no((), (("bc", "a", False), ("bc", "c", False)))
        self.no((), (("ab", "b", False), ("ab", "a", False)))

    def test_one_thing_wrong_at_each_place(self):
        for number, step in enumerate(self.TRIP):
            street, junction, is_work = step
            for other in (
                None, (), step[:2], step + (0,), list(step), (None, junction, is_work), ("x", junction, is_work), ([street], junction, is_work),
                (street, None, is_work), (street, "x", is_work), (street, [junction], is_work), (street, junction, None),
                (street, junction, int(is_work)), (street, junction, "x"), (street, junction, not is_work), "abc", {},
                ((street,), junction, is_work), (street, junction, [is_work]), 5,
            ):
                self.no((AB, BC), self.TRIP[:number] + (other,) + self.TRIP[number + 1:])
            self.no((AB, BC), self.TRIP[:number] + self.TRIP[number + 1:])
            self.no((AB, BC), self.TRIP[:number] + (step, step) + self.TRIP[number + 1:])

    def test_other_things(self):
        for thing in OTHER_THINGS:
            self.no((AB, BC), thing)
            self.no((), (thing,))
            if thing != ():
                self.no((), thing)
        self.no((AB, BC), list(self.TRIP))
        self.no((), [])

    def test_empty_ways(self):
        self.assertEqual(empty_way(RING, self.TRIP), 4)
        self.assertEqual(empty_way(RING, ()), 0)
        self.assertEqual(empty_way(RING, (("ab", "a", True), ("ab", "b", True))), 0)
        self.assertEqual(empty_way(RING, (("ab", "a", False), ("bc", "b", True), ("bc", "c", False), ("ab", "b", False))), 7)
        self.assertEqual(empty_way(PARTS, (("ab", "a", False), ("ba", "b", False))), 7)


class Balances(unittest.TestCase):
    def test_of_all_junctions(self):
        self.assertEqual(balance_of(RING, ()), {"a": 0, "b": 0, "c": 0})
        self.assertEqual(balance_of(RING, (AB,)), {"a": -1, "b": 1, "c": 0})
        self.assertEqual(balance_of(RING, (AB, BC)), {"a": -1, "b": 0, "c": 1})
        self.assertEqual(balance_of(RING, (AB, BA)), {"a": 0, "b": 0, "c": 0})
        self.assertEqual(balance_of(RING, (AB, AC)), {"a": -2, "b": 1, "c": 1})
        self.assertEqual(balance_of(PARTS, (("ab", "a"), ("ba", "a"), ("cd", "d"))), {"a": -2, "b": 2, "c": 1, "d": -1, "e": 0})


class HangingTogether(unittest.TestCase):
    def test_from_home(self):
        for lanes in ((), (AB,), (BA,), (AB, BC), (BA, CB), (BC, AB), (CB, BA), (AC, BC), (AB, BC, CA)):
            self.assertIs(hang_together(RING, "a", lanes), True, lanes)
        for lanes in ((BC,), (CB,), (BC, CB)):
            self.assertIs(hang_together(RING, "a", lanes), False, lanes)
        self.assertIs(hang_together(RING, "c", (AB, CB)), True)
        self.assertIs(hang_together(RING, "c", (AB,)), False)

    def test_parts(self):
        self.assertIs(hang_together(PARTS, "a", (("ab", "a"), ("ba", "a"))), True)
        self.assertIs(hang_together(PARTS, "a", (("ab", "a"), ("cd", "c"))), False)
        self.assertIs(hang_together(PARTS, "e", ()), True)
        self.assertIs(hang_together(PARTS, "e", (("cd", "c"),)), False)
        self.assertIs(hang_together(PARTS, "d", (("cd", "c"),)), True)

    def test_a_long_row_in_any_order(self):
        names = tuple(f"j{number}" for number in range(12))
        city = (names, streets_of((f"s{number}", names[number], names[number + 1], 1) for number in range(11)), (("ann", "j0"),), (1, 0, 0))
        lanes = tuple((f"s{number}", names[number + number % 2]) for number in range(11))
        self.assertIs(hang_together(city, "j0", lanes[::-1]), True)
        self.assertIs(hang_together(city, "j5", lanes[::2] + lanes[1::2]), True)
        for number in range(1, 10):
            self.assertIs(hang_together(city, "j0", lanes[:number] + lanes[number + 1:]), False)


class RoundTrips(unittest.TestCase):
    def shown(self, city, home, lanes):
        """The empty way of the trip that is told, its prices being gone through."""
        told = round_trip(city, home, lanes)
        self.assertIsInstance(told, tuple)
        trip, prices = told
        self.assertTrue(is_trip_as_told(city, home, lanes, trip))
        self.assertIs(is_trip(city, home, lanes, trip), True)
        self.assertIs(is_priced(city, home, lanes, trip, prices), True)
        self.assertEqual(set(prices), set(city[0]))
        balance = balance_of(city, lanes)
        self.assertEqual(sum(-balance[place] * prices[place] for place in city[0]), empty_way(city, trip))
        for (_, start), (end, passing) in ends_of(city).items():
            self.assertLessEqual(prices[end] - prices[start], passing)
        return empty_way(city, trip)

    def test_no_lanes(self):
        self.assertEqual(self.shown(RING, "a", ()), 0)
        self.assertEqual(round_trip(RING, "a", ())[0], ())
        self.assertEqual(round_trip(PARTS, "e", ())[0], ())

    def test_one_lane(self):
        self.assertEqual(self.shown(RING, "a", (AB,)), 2)
        self.assertEqual(self.shown(RING, "b", (AB,)), 2)
        self.assertEqual(self.shown(RING, "a", (CA,)), 4)
        self.assertEqual(self.shown(PARTS, "a", (("ab", "a"),)), 2)
        self.assertEqual(self.shown(PARTS, "d", (("cd", "c"),)), 1)

    def test_the_sample(self):
        trip, prices = round_trip(RING, "a", (AB, BC))
        self.assertEqual(trip, (("ab", "a", True), ("bc", "b", True), ("ca", "c", False)))
        self.assertEqual(self.shown(RING, "a", (AB, BC)), 4)

    def test_a_long_way_round_is_cheaper(self):
        city = (("a", "b", "c"), streets_of((("ab", "a", "b", 9), ("bc", "b", "c", 1), ("ca", "c", "a", 1))), (("ann", "a"),), (1, 0, 0))
        self.assertEqual(self.shown(city, "a", (("ab", "a"),)), 2)

    def test_ways_ahead_may_be_taken_back(self):
        # The nearest pairs are not the cheapest ones in all.
        rows = (("s0", "a", "b", 5), ("s1", "b", "c", 1), ("s2", "c", "d", 5), ("s3", "b", "a", 9), ("s4", "c", "b", 9), ("s5", "d", "c", 9))
        city = (("a", "b", "c", "d"), streets_of(rows), (("ann", "a"),), (1, 0, 0))
        for lanes in ((("s3", "b"), ("s4", "b"), ("s5", "d")), (("s3", "a"), ("s4", "c"), ("s5", "d"))):
            self.assertEqual(self.shown(city, "b", lanes), least_empty(city, "b", lanes))

    def test_all_lanes(self):
        for seed in range(25):
            rng = random.Random(seed)
            city = random_city(rng, 12, 20)
            whole = [lane for lane in lanes_of(city) if hang_together(city, lane[1], tuple(lanes_of(city)))]
            if whole:
                self.assertEqual(self.shown(city, whole[0][1], tuple(lanes_of(city))), 0)

    def test_many_lanes_have_prices(self):
        checked = 0
        for seed in range(150):
            rng = random.Random(seed)
            city = random_city(rng, rng.randint(2, 12), rng.randint(1, 20))
            lanes = tuple(lane for lane in lanes_of(city) if rng.random() < 0.6)
            home = rng.choice(city[0])
            if hang_together(city, home, lanes):
                checked += 1
                self.shown(city, home, lanes)
        self.assertGreater(checked, 40)

    def test_against_a_search_over_all_trips(self):
        checked = 0
        for seed in range(300):
            rng = random.Random(seed)
            city = random_city(rng, rng.randint(2, 5), rng.randint(1, 6))
            lanes = tuple(rng.sample(sorted(lanes_of(city)), rng.randint(0, min(6, 2 * len(city[1])))))
            home = rng.choice(city[0])
            if hang_together(city, home, lanes):
                checked += 1
                self.assertEqual(self.shown(city, home, lanes), least_empty(city, home, lanes))
        self.assertGreater(checked, 60)


class Prices(unittest.TestCase):
    LANES = (AB, BC)
    TRIP, PRICES = round_trip(RING, "a", LANES)

    def priced(self, wanted, prices, trip=TRIP, lanes=LANES, home="a", city=RING):
        before = copy.deepcopy(prices) if isinstance(prices, (dict, list)) else prices
        self.assertIs(is_priced(city, home, lanes, trip, prices), wanted)
        self.assertEqual(prices, before)

    def test_right_ones(self):
        self.priced(True, self.PRICES)
        self.priced(True, {"a": 4, "b": 2, "c": 0})
        self.priced(True, {"a": 104, "b": 102, "c": 100})
        self.priced(True, {"a": 0, "b": -2, "c": -4})
        self.priced(True, {"a": 4, "b": 3, "c": 0})
        self.priced(True, {"a": 0, "b": 0, "c": 0}, (), ())
        self.priced(True, {"a": 0, "b": 2, "c": 1}, (("ab", "a", False), ("ab", "b", True)), (BA,))

    def test_a_price_that_rises_by_more_than_the_pass(self):
        self.priced(False, {"a": 4, "b": 1, "c": 0})
        self.priced(False, {"a": 4, "b": 4, "c": 0})
        self.priced(False, {"a": 5, "b": 3, "c": 0})
        self.priced(False, {"a": 4, "b": 7, "c": 0})
        self.priced(False, {"a": 9, "b": 0, "c": 0}, (), ())

    def test_a_sum_that_is_not_the_empty_way(self):
        self.priced(False, {"a": 3, "b": 2, "c": 0})
        self.priced(False, {"a": 0, "b": 0, "c": 0})
        longer = self.TRIP + (("ab", "a", False), ("ab", "b", False))
        self.assertTrue(is_trip(RING, "a", self.LANES, longer))
        self.priced(False, self.PRICES, longer)

    def test_each_price_is_needed(self):
        for junction in "abc":
            other = dict(self.PRICES)
            del other[junction]
            self.priced(False, other)
            self.priced(False, {**other, "x": 0})
            for price in (None, True, False, 0.0, 1.5, "1", (1,), [1], self.PRICES[junction] + 100, self.PRICES[junction] - 100):
                self.priced(False, {**self.PRICES, junction: price})
        flat = {"a": 0, "b": 0, "c": 0}
        self.priced(True, flat, (), ())
        for junction in "abc":
            self.priced(False, {**flat, junction: False}, (), ())
            self.priced(False, {**flat, junction: 0.0}, (), ())

    def test_one_price_too_many(self):
        for key in ("d", None, 1, (), ("a",)):
            self.priced(False, {**self.PRICES, key: 0})

    def test_trips_that_are_none(self):
        for trip in (self.TRIP[:2], (), list(self.TRIP), None, self.TRIP[::-1]):
            self.priced(False, self.PRICES, trip)
        self.priced(False, self.PRICES, self.TRIP, (AB,))
        self.priced(False, self.PRICES, self.TRIP, self.LANES, "b")

    def test_other_things(self):
        for thing in OTHER_THINGS:
            self.priced(False, thing)
            self.priced(False, self.PRICES, thing)
        self.priced(False, list(self.PRICES.items()))
        self.priced(False, tuple(self.PRICES))

    def test_junctions_of_other_parts_have_prices(self):
        trip = (("cd", "c", True), ("cd", "d", False))
        lanes = (("cd", "c"),)
        self.priced(True, {"a": 0, "b": 2, "c": 1, "d": 0, "e": 77}, trip, lanes, "c", PARTS)
        self.priced(False, {"a": 0, "b": 3, "c": 1, "d": 0, "e": 77}, trip, lanes, "c", PARTS)
        self.priced(False, {"c": 1, "d": 0}, trip, lanes, "c", PARTS)


class AnyTrips(unittest.TestCase):
    def shown(self, city, home, lanes):
        """The empty way of the trip that is told, its table being gone through."""
        told = any_trip(city, home, lanes)
        if told is None:
            return None
        self.assertIsInstance(told, tuple)
        trip, table = told
        self.assertTrue(is_trip_as_told(city, home, lanes, trip))
        self.assertIs(is_tabled(city, home, lanes, trip, table), True)
        self.assertEqual(table, all_states(city, home, lanes))
        return empty_way(city, trip)

    def test_the_sample(self):
        self.assertEqual(self.shown(RING, "a", (BC,)), 6)

    def test_no_lanes(self):
        self.assertEqual(any_trip(RING, "a", ()), ((), {((), "a"): 0, ((), "b"): 2, ((), "c"): 4}))
        self.assertEqual(any_trip(PARTS, "e", ()), ((), {((), "e"): 0}))

    def test_lanes_that_do_not_hang_together(self):
        city = (
            ("a", "b", "c", "d"),
            streets_of((("ab", "a", "b", 1), ("bc", "b", "c", 7), ("cd", "c", "d", 2))),
            (("ann", "a"),),
            (1, 0, 0),
        )
        self.assertEqual(self.shown(city, "a", (("cd", "c"), ("ab", "b"))), 17)
        self.assertEqual(self.shown(city, "a", (("cd", "c"), ("cd", "d"))), 16)

    def test_lanes_that_cannot_be_come_to(self):
        self.assertIsNone(any_trip(PARTS, "a", (("cd", "c"),)))
        self.assertIsNone(any_trip(PARTS, "e", (("cd", "c"),)))
        self.assertIsNone(any_trip(PARTS, "a", (("ab", "a"), ("cd", "d"))))
        self.assertEqual(self.shown(PARTS, "a", (("ab", "a"), ("ba", "a"))), 4)

    def test_6_lanes(self):
        for seed in range(6):
            rng = random.Random(seed)
            city = random_city(rng, 12, 20)
            lanes = tuple(rng.sample(sorted(lanes_of(city)), 6))
            self.assertEqual(self.shown(city, "j0", lanes), least_empty(city, "j0", lanes))

    def test_all_lanes_of_a_ring(self):
        self.assertEqual(self.shown(RING, "a", (AB, BA, BC, CB, CA, AC)), 0)

    def test_against_a_search_over_all_trips(self):
        missing = 0
        for seed in range(200):
            rng = random.Random(seed)
            city = random_city(rng, rng.randint(2, 6), rng.randint(1, 6))
            lanes = tuple(rng.sample(sorted(lanes_of(city)), rng.randint(0, min(4, 2 * len(city[1])))))
            home = rng.choice(city[0])
            wanted = least_empty(city, home, lanes)
            missing += wanted is None
            self.assertEqual(self.shown(city, home, lanes), wanted)
        self.assertGreater(missing, 10)

    def test_against_round_trips(self):
        checked = 0
        for seed in range(120):
            rng = random.Random(seed)
            city = random_city(rng, rng.randint(2, 6), rng.randint(1, 8))
            lanes = tuple(rng.sample(sorted(lanes_of(city)), min(4, 2 * len(city[1]))))
            home = lanes[0][1]
            if hang_together(city, home, lanes):
                checked += 1
                self.assertEqual(empty_way(city, round_trip(city, home, lanes)[0]), self.shown(city, home, lanes))
        self.assertGreater(checked, 20)


def all_states(city, home, lanes):
    """The second telling of the table: costs sink till nothing changes."""
    table = {((), home): 0}
    todo = [((), home)]
    while todo:
        done, here = todo.pop()
        for (name, start), (end, passing) in ends_of(city).items():
            if start != here:
                continue
            following = [((done, end), passing)]
            if (name, start) in lanes and (name, start) not in done:
                following.append(((tuple(sorted(done + ((name, start),))), end), 0))
            for state, cost in following:
                if state not in table or table[done, here] + cost < table[state]:
                    table[state] = table[done, here] + cost
                    todo.append(state)
    return table


class Tables(unittest.TestCase):
    LANES = (BC, CA)
    TRIP, TABLE = any_trip(RING, "a", LANES)
    END = ((BC, CA), "a")

    def tabled(self, wanted, table, trip=TRIP, lanes=LANES, home="a", city=RING):
        before = copy.deepcopy(table) if isinstance(table, (dict, list)) else table
        self.assertIs(is_tabled(city, home, lanes, trip, table), wanted)
        self.assertEqual(table, before)

    def test_right_ones(self):
        self.tabled(True, self.TABLE)
        self.assertEqual(len(self.TABLE), 12)
        self.tabled(True, {((), "a"): 0, ((), "b"): 2, ((), "c"): 4}, (), ())
        self.tabled(True, {((), "a"): 0, ((), "b"): 0, ((), "c"): 0}, (), ())
        self.tabled(True, {((), "a"): 0, ((), "b"): -2, ((), "c"): 1}, (), ())
        self.tabled(True, {((), "e"): 0}, (), (), "e", PARTS)

    def test_each_state_is_needed(self):
        for state in self.TABLE:
            other = dict(self.TABLE)
            del other[state]
            self.tabled(False, other)
        self.tabled(False, {})

    def test_a_greater_cost(self):
        for state in self.TABLE:
            self.tabled(False, {**self.TABLE, state: self.TABLE[state] + 1})
            self.tabled(False, {**self.TABLE, state: self.TABLE[state] + 100})

    def test_a_lesser_cost(self):
        for state in self.TABLE:
            self.tabled(False, {**self.TABLE, state: self.TABLE[state] - 100})
        self.tabled(False, {**self.TABLE, self.END: self.TABLE[self.END] - 1})
        self.tabled(False, {**self.TABLE, ((), "a"): -1})

    def test_a_lesser_cost_that_harms_nothing(self):
        flat = {state: 0 for state in self.TABLE}
        self.tabled(False, flat)
        lower = {state: min(cost, 1) for state, cost in all_states(RING, "a", ()).items()}
        self.tabled(True, lower, (), ())

    def test_costs_that_are_no_integers(self):
        for state in self.TABLE:
            for cost in (None, True, False, float(self.TABLE[state]), "1", (1,), [1], {}):
                self.tabled(False, {**self.TABLE, state: cost})
        self.tabled(False, {((), "a"): False, ((), "b"): 2, ((), "c"): 4}, (), ())

    def test_the_first_state_has_0(self):
        more = {state: cost + 1 for state, cost in self.TABLE.items()}
        self.tabled(False, more)
        longer = self.TRIP + (("ab", "a", False), ("ab", "b", False))
        self.tabled(False, {state: cost + 4 for state, cost in self.TABLE.items()}, longer)

    def test_the_end_has_the_empty_way_of_the_trip(self):
        longer = self.TRIP + (("ab", "a", False), ("ab", "b", False))
        self.assertTrue(is_trip(RING, "a", self.LANES, longer))
        self.tabled(False, self.TABLE, longer)
        self.tabled(False, {**self.TABLE, self.END: self.TABLE[self.END] + 4}, longer)

    def test_keys_that_are_no_states(self):
        for key in (
            None, 5, "a", (), ("a",), ((), "a", 0), ((), "d"), ((), None), ((), 0), (None, "a"), ("", "a"), ((AB,), "a"), ((BC, BC), "a"),
            ((CA, BC), "a"), (("bc",), "a"), ((None,), "a"), ((BC, CA, CA), "a"), ((BC, AB), "a"), ("bc", "a"), (((("bc", "b"),),), "a"),
            ((), ("a",)), ((1, 2), "a"), ((("bc", 1),), "a"), (BC, "a"),
        ):
            self.assertNotIn(key, self.TABLE)
            for cost in (0, 1000):
                self.tabled(False, {**self.TABLE, key: cost})

    def test_keys_that_nothing_follows_and_that_are_no_states(self):
        # No lane leaves e, so that only the form of what is done can tell these apart.
        lanes, trip = (("ab", "a"), ("ab", "b")), (("ab", "a", True), ("ab", "b", True))
        table = all_states(PARTS, "a", lanes)
        for done in ((), lanes[:1], lanes[1:], lanes):
            self.tabled(True, {**table, (done, "e"): 3}, trip, lanes, "a", PARTS)
        for done in (lanes[::-1], (lanes[0], lanes[0]), (("cd", "c"),), (("ab", "c"),), ("ab", "a"), (None,), lanes + lanes[1:], "", None):
            self.tabled(False, {**table, (done, "e"): 3}, trip, lanes, "a", PARTS)

    def test_states_that_cannot_be_come_to(self):
        # Formed as states, they may stand there, as long as all that follow them do.
        lanes, trip = (("ab", "a"),), (("ab", "a", True), ("ba", "b", False))
        table = all_states(PARTS, "a", lanes)
        self.tabled(True, table, trip, lanes, "a", PARTS)
        self.tabled(True, {**table, ((), "e"): -5}, trip, lanes, "a", PARTS)
        self.tabled(False, {**table, ((), "c"): 0}, trip, lanes, "a", PARTS)
        self.tabled(True, {**table, ((), "c"): 0, ((), "d"): 1}, trip, lanes, "a", PARTS)
        self.tabled(False, {**table, ((), "c"): 0, ((), "d"): 2}, trip, lanes, "a", PARTS)

    def test_trips_that_are_none(self):
        for trip in (self.TRIP[:-1], (), list(self.TRIP), None, self.TRIP[::-1]):
            self.tabled(False, self.TABLE, trip)
        self.tabled(False, self.TABLE, self.TRIP, (BC,))
        self.tabled(False, self.TABLE, self.TRIP, self.LANES, "b")

    def test_tables_of_other_lanes(self):
        self.tabled(False, all_states(RING, "a", (BC,)))
        self.tabled(False, all_states(RING, "b", self.LANES))

    def test_other_things(self):
        for thing in OTHER_THINGS:
            self.tabled(False, thing)
            self.tabled(False, self.TABLE, thing)
        self.tabled(False, list(self.TABLE.items()))
        self.tabled(False, tuple(self.TABLE))


class ArgumentsStay(unittest.TestCase):
    def test_they_stay(self):
        arguments = (RING, "a", (BC, CA))
        before = copy.deepcopy(arguments)
        trip, table = any_trip(*arguments)
        kept = copy.deepcopy((trip, table))
        is_tabled(*arguments, trip, table)
        hang_together(*arguments)
        round_trip(*arguments)
        self.assertEqual((arguments, (trip, table)), (before, kept))
        self.assertEqual(any_trip(*arguments), any_trip(*before))
        self.assertEqual(round_trip(*arguments), round_trip(*before))


if __name__ == "__main__":
    unittest.main()
