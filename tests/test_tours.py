"""[11] Tours by the clock."""

import copy
import unittest

from snowsure.errors import BadOrders, TooMany
from snowsure.tours import belief_behind, first_belief, is_shut, is_tour, is_tourless, tour_for
from tests import slow
from tests.samples import FAIR, OTHER_THINGS, PAIR, STORM, TOWN, empty_town, small_worlds, with_rules

PROMPT = with_rules(TOWN, 3, 0, 0)
HILL_OF_TWO = ("hill", "a", "b", 1, 1, 2, ((0, 3),))
SNOWY = (("a", "b"), (HILL_OF_TWO,), (("ann", "a"),), (3, 0, 0))
WORK = (("hill", True),)
PASS = (("hill", False),)
IDLE = (None,)


def clear_worlds(many):
    """Small cities without lateness and breakdowns, each with a sky."""
    return [(with_rules(city, city[3][0], 0, 0), sky) for city, sky in small_worlds(many)]


def standing_of(belief, case):
    return (belief[0], case[0], case[1], belief[1], 0)


def behind(city, sky, belief, orders):
    """The belief behind, by the ticks of the second telling."""
    after = set()
    for case in belief[2]:
        standing = standing_of(belief, case)
        for answer in slow.answers(city, sky, standing, orders):
            after.add(slow.behind(city, sky, standing, orders, answer))
    (time,) = {standing[0] for standing in after}
    (ploughs,) = {standing[3] for standing in after}
    return (time, ploughs, tuple(sorted({standing[1:3] for standing in after})))


def shut(city, belief):
    return any(slow.closed(city, standing_of(belief, case)) for case in belief[2])


def first_of(city, sky):
    start = slow.start(city, sky)
    return (start[0], start[3], (start[1:3],))


def reached(city, sky, most=400):
    """All beliefs that can be come to, each with those that follow, none behind a shut one; None beyond so many."""
    first = first_of(city, sky)
    table = {}
    todo = [first]
    seen = {first}
    while todo:
        belief = todo.pop()
        table[belief] = set()
        if not shut(city, belief):
            table[belief] = {behind(city, sky, belief, orders) for orders in slow.orders(city, standing_of(belief, belief[2][0]))}
        todo += table[belief] - seen
        seen |= table[belief]
        if len(seen) > most:
            return None
    return table


def has_tour(city, table, first):
    """Whether one can go on for ever without coming to a shut belief."""
    left = {belief for belief in table if not shut(city, belief)}
    while True:
        lost = {belief for belief in left if not table[belief] & left}
        if not lost:
            return first in left
        left -= lost


def keeps_round(city, sky, first, again):
    """Whether orders are a tour, by the second telling."""
    belief = first_of(city, sky)
    marks = []
    for number, orders in enumerate([*first, *again, None]):
        if shut(city, belief):
            return False
        if number in (len(first), len(first) + len(again)):
            marks.append(belief)
        if orders is not None:
            if orders not in slow.orders(city, standing_of(belief, belief[2][0])):
                return False
            belief = behind(city, sky, belief, orders)
    return len(again) > 0 and marks[0] == marks[1]


def lowest_ranks(table):
    """The least ranks: how many ticks at most till a shut belief."""
    ranks = {}
    while len(ranks) < len(table):
        done = len(ranks)
        for belief, following in table.items():
            if belief not in ranks and all(after in ranks for after in following):
                ranks[belief] = 1 + max([ranks[after] for after in following], default=-1)
        assert len(ranks) > done
    return ranks


class Beliefs(unittest.TestCase):
    def test_first(self):
        self.assertEqual(first_belief(PROMPT, FAIR), (0, (("at", "a"),), (("dry", (0,)),)))
        for city, sky in clear_worlds(20):
            before = copy.deepcopy((city, sky))
            self.assertEqual(first_belief(city, sky), first_of(city, sky))
            self.assertEqual((city, sky), before)

    def test_behind(self):
        one = belief_behind(PROMPT, FAIR, first_belief(PROMPT, FAIR), IDLE)
        self.assertEqual(one, (1, (("at", "a"),), (("dry", (0,)), ("wet", (1,)))))
        two = belief_behind(PROMPT, FAIR, one, WORK)
        self.assertEqual(two, (2, (("at", "b"),), (("dry", (0,)), ("wet", (1,)))))
        three = belief_behind(PROMPT, FAIR, two, PASS)
        self.assertEqual(three, (0, (("at", "a"),), (("dry", (0,)), ("dry", (1,)), ("wet", (1,)))))

    def test_on_the_street(self):
        city = (("a", "b"), (("hill", "a", "b", 2, 3, 1, ()),), (("ann", "a"), ("bob", "b")), (5, 0, 0))
        belief = first_belief(city, STORM)
        places = []
        for orders in ((("hill", True), ("hill", False)), (None, None), (None, ("hill", False)), (None, None)):
            belief = belief_behind(city, STORM, belief, orders)
            places.append((belief[0], belief[1], belief[2]))
        self.assertEqual(places, [
            (1, (("on", "hill", "b", True, 2), ("on", "hill", "a", False, 1)), (("s", (1,)),)),
            (2, (("on", "hill", "b", True, 1), ("at", "a")), (("s", (2,)),)),
            (3, (("at", "b"), ("on", "hill", "b", False, 1)), (("s", (1,)),)),
            (4, (("at", "b"), ("at", "b")), (("s", (2,)),)),
        ])

    def test_against_the_ticks(self):
        many = 0
        for city, sky in clear_worlds(60):
            table = reached(city, sky, 60)
            for belief in list(table or {})[:15]:
                if shut(city, belief):
                    continue
                for orders in slow.orders(city, standing_of(belief, belief[2][0])):
                    told = belief_behind(city, sky, belief, orders)
                    self.assertEqual(told, behind(city, sky, belief, orders))
                    self.assertEqual(list(told[2]), sorted(set(told[2])))
                    many += 1
        self.assertGreater(many, 500)

    def test_each_case_once_and_ascending(self):
        sky = ("z", (("z", (("z", ("hill",)), ("b", ()), ("z", ("hill",)), ("a", ("hill",)))), ("a", (("z", ()),)), ("b", (("a", ()),))))
        belief = belief_behind(SNOWY, sky, first_belief(SNOWY, sky), IDLE)
        self.assertEqual(belief[2], (("a", (1,)), ("b", (0,)), ("z", (1,))))
        belief = belief_behind(SNOWY, sky, belief, IDLE)
        self.assertEqual(belief[2], (("a", (0,)), ("a", (2,)), ("b", (1,)), ("z", (1,)), ("z", (2,))))

    def test_bad_orders(self):
        belief = first_belief(PROMPT, FAIR)
        for orders in (None, (), [None], ((None,),), (("hill", 1),), (("nowhere", True),), (None, None), "x", 0, (["hill", True],)):
            before = copy.deepcopy(orders)
            with self.assertRaises(BadOrders) as caught:
                belief_behind(PROMPT, FAIR, belief, orders)
            self.assertIs(caught.exception.thing, orders)
            self.assertEqual(orders, before)
        riding = (0, (("on", "hill", "b", True, 1),), (("dry", (0,)),))
        with self.assertRaises(BadOrders):
            belief_behind(with_rules((("a", "b"), (("hill", "a", "b", 2, 2, 1, ()),), (("ann", "a"),), None), 3, 0, 0), FAIR, riding, WORK)

    def test_shut(self):
        for wanted, time, cases in (
            (False, 0, (("dry", (0,)), ("dry", (1,)))), (True, 0, (("dry", (0,)), ("dry", (2,)))), (True, 0, (("dry", (2,)), ("wet", (0,)))),
            (False, 1, (("dry", (2,)),)), (False, 2, (("dry", (2,)),)), (True, 0, (("wet", (2,)),)),
        ):
            belief = (time, (("at", "a"),), cases)
            self.assertIs(is_shut(PROMPT, belief), wanted)
            self.assertIs(is_shut(PROMPT, (time, (("on", "hill", "b", True, 1),), cases)), wanted)

    def test_arguments_stay(self):
        belief = (0, (("at", "a"),), (("dry", (0,)), ("wet", (1,))))
        things = (PROMPT, FAIR, belief, WORK)
        before = copy.deepcopy(things)
        belief_behind(*things)
        is_shut(PROMPT, belief)
        self.assertEqual(things, before)


class Tours(unittest.TestCase):
    def test_without_a_first_part(self):
        self.assertIs(is_tour(empty_town(3), STORM[:1] + ((("s", (("s", ()),)),),), (), (IDLE,) * 3), True)
        self.assertIs(is_tour(empty_town(3), STORM[:1] + ((("s", (("s", ()),)),),), (), (IDLE,) * 6), True)
        self.assertIs(is_tour(empty_town(3), STORM[:1] + ((("s", (("s", ()),)),),), (), (IDLE,) * 4), False)

    def test_with_a_first_part(self):
        self.assertIs(is_tour(SNOWY, STORM, (WORK,), (WORK,) * 6), True)
        self.assertIs(is_tour(SNOWY, STORM, (WORK,) * 4, (WORK,) * 12), True)
        self.assertIs(is_tour(SNOWY, STORM, (IDLE, IDLE), (WORK, IDLE) * 6), True)

    def test_another_belief_behind(self):
        for first, again in (((), (WORK,) * 6), ((WORK,), (WORK,) * 5), ((WORK,), (WORK,) * 3), ((WORK,), (WORK,)), ((IDLE,), (WORK,) * 6)):
            self.assertIs(is_tour(SNOWY, STORM, first, again), keeps_round(SNOWY, STORM, first, again))
        self.assertIs(is_tour(SNOWY, STORM, (), (WORK,) * 6), False)
        self.assertIs(is_tour(SNOWY, STORM, (WORK,), (WORK,) * 3), False)

    def test_nothing_again(self):
        self.assertIs(is_tour(SNOWY, STORM, (WORK,), ()), False)
        self.assertIs(is_tour(SNOWY, STORM, (), ()), False)

    def test_orders_that_can_not_be_given(self):
        for bad in ((), None, [None], (("hill", 1),), (("nowhere", True),), (None, None), "-", 3, (["hill", True],)):
            self.assertIs(is_tour(SNOWY, STORM, (bad,), (WORK,) * 6), False)
            for place in range(6):
                self.assertIs(is_tour(SNOWY, STORM, (WORK,), (WORK,) * place + (bad,) + (WORK,) * (5 - place)), False)

    def test_a_shut_belief_on_the_way(self):
        # Two ticks of waiting are borne, three aren't; work comes too late then.
        self.assertIs(is_tour(SNOWY, STORM, (IDLE,) * 2, (WORK,) * 6), False)
        self.assertIs(is_tour(SNOWY, STORM, (IDLE,) * 2 + (WORK,), (WORK,) * 6), True)
        self.assertIs(is_tour(SNOWY, STORM, (IDLE,) * 3 + (WORK,), (WORK,) * 6), False)
        self.assertIs(is_tour(SNOWY, STORM, (WORK,), (IDLE, IDLE, WORK) * 2), False)
        self.assertIs(is_tour(SNOWY, STORM, (WORK,), (IDLE, WORK) * 6), True)
        self.assertIs(is_tour(SNOWY, STORM, (IDLE,) * 4, (IDLE,) * 3), False)

    def test_a_shut_belief_only_where_it_is_asked(self):
        city = (("a", "b"), (("hill", "a", "b", 1, 1, 0, ((1, 2),)),), (("ann", "a"),), (3, 0, 0))
        sky = ("x", (("x", (("y", ()),)), ("y", (("z", ("hill",)),)), ("z", (("x", ()),))))
        self.assertIs(is_tour(city, sky, (), (IDLE, IDLE, WORK) * 2), True)
        late = ("x", (("x", (("y", ("hill",)),)), ("y", (("z", ()),)), ("z", (("x", ()),))))
        self.assertIs(is_tour(city, late, (), (IDLE, WORK, IDLE) * 2), False)

    def test_other_things(self):
        for thing in OTHER_THINGS:
            if thing != ():
                self.assertIs(is_tour(SNOWY, STORM, thing, (WORK,) * 6), False)
            self.assertIs(is_tour(SNOWY, STORM, (WORK,), thing), False)
        self.assertIs(is_tour(SNOWY, STORM, [WORK], (WORK,) * 6), False)
        self.assertIs(is_tour(SNOWY, STORM, (WORK,), [WORK] * 6), False)

    def test_arguments_stay(self):
        things = (SNOWY, STORM, (WORK,), (WORK,) * 6)
        before = copy.deepcopy(things)
        is_tour(*things)
        tour_for(SNOWY, STORM)
        self.assertEqual(things, before)

    def test_against_the_second_telling(self):
        words = {}
        for number, (city, sky) in enumerate(clear_worlds(80)):
            table = reached(city, sky)
            if table is None:
                with self.assertRaises(TooMany) as caught:
                    tour_for(city, sky)
                self.assertEqual(caught.exception.most, 400)
                continue
            told = tour_for(city, sky)
            self.assertEqual(told, tour_for(city, sky))
            self.assertIsInstance(told, tuple)
            words[told[0]] = words.get(told[0], 0) + 1
            self.assertEqual(told[0] == "tour", has_tour(city, table, first_of(city, sky)), number)
            if told[0] == "tour":
                self.assertEqual(len(told), 3)
                self.assertTrue(isinstance(told[1], tuple) and isinstance(told[2], tuple))
                self.assertTrue(is_tour(city, sky, *told[1:]))
                self.assertTrue(keeps_round(city, sky, *told[1:]))
                self.assertIs(is_tourless(city, sky, {belief: number for number, belief in enumerate(table)}), False)
            else:
                word, ranks = told
                self.assertEqual(word, "none")
                self.assertIsInstance(ranks, dict)
                self.assertTrue(is_tourless(city, sky, ranks))
                for belief, following in table.items():
                    self.assertTrue(all(ranks[after] < ranks[belief] for after in following))
        self.assertTrue(words["tour"] > 10 and words["none"] > 30, words)

    def test_the_first_tick_counts(self):
        # Who doesn't set out at once is too late.
        city = (("a", "b"), (("hill", "a", "b", 1, 2, 0, ((2, 3),)),), (("ann", "a"),), (3, 0, 0))
        sky = ("x", (("x", (("y", ("hill",)),)), ("y", (("z", ()),)), ("z", (("x", ()),))))
        word, first, again = tour_for(city, sky)
        self.assertEqual(word, "tour")
        self.assertTrue(is_tour(city, sky, first, again) and keeps_round(city, sky, first, again))
        self.assertEqual((first + again)[0], WORK)
        self.assertIs(is_tour(city, sky, (IDLE,), (WORK, IDLE, IDLE) * 2), False)

    def test_changed_tours_against_the_second_telling(self):
        many = {True: 0, False: 0}
        for city, sky in clear_worlds(80):
            table = reached(city, sky)
            if table is None or tour_for(city, sky)[0] == "none":
                continue
            _, first, again = tour_for(city, sky)
            rows = [(first + again[:1], again[1:] + again[:1]), (first, again * 2), (first[1:], again), (first, again[1:]), (again, again)]
            idle = (None,) * len(city[2])
            rows += [(first[:k] + (idle,) + first[k + 1:], again) for k in range(len(first))]
            rows += [(first, again[:k] + (idle,) + again[k + 1:]) for k in range(len(again))]
            for row in rows:
                wanted = keeps_round(city, sky, *row)
                many[wanted] += 1
                self.assertIs(is_tour(city, sky, *row), wanted)
        self.assertTrue(min(many.values()) > 20, many)


class Tourless(unittest.TestCase):
    def setUp(self):
        self.city, self.sky = clear_worlds(102)[101]
        self.table = reached(self.city, self.sky)
        self.ranks = lowest_ranks(self.table)
        self.first = first_of(self.city, self.sky)

    def told(self, wanted, ranks):
        before = copy.deepcopy(ranks)
        self.assertIs(is_tourless(self.city, self.sky, ranks), wanted)
        self.assertEqual(ranks, before)

    def test_ranks(self):
        self.assertGreater(max(self.ranks.values()), 4)
        self.told(True, self.ranks)
        self.told(True, tour_for(self.city, self.sky)[1])
        self.told(True, {belief: rank + 7 for belief, rank in self.ranks.items()})
        self.told(True, {belief: rank * 3 for belief, rank in self.ranks.items()})

    def test_each_rank(self):
        for belief, rank in list(self.ranks.items())[::3]:
            following = self.table[belief]
            for other in (None, "1", (rank,), [rank], rank + 0.5, -1, -rank - 1, True, False):
                ranks = {**self.ranks, belief: other}
                self.told(False, ranks)
                self.told(False, dict(reversed(list(ranks.items()))))
            if following:
                highest = max(self.ranks[after] for after in following)
                self.told(False, {**self.ranks, belief: highest})
                self.told(False, {**self.ranks, belief: highest - 1 if highest else 0})
        self.told(True, {**self.ranks, self.first: self.ranks[self.first] + 100})

    def test_a_rank_that_is_too_great_for_those_ahead(self):
        for belief in self.ranks:
            ahead = [before for before, following in self.table.items() if belief in following]
            wanted = not ahead or min(self.ranks[before] for before in ahead) > self.ranks[belief] + 1
            self.told(wanted, {**self.ranks, belief: self.ranks[belief] + 1})

    def test_each_belief_lacking(self):
        for belief in self.ranks:
            self.told(False, {other: rank for other, rank in self.ranks.items() if other != belief})
        self.told(False, {})

    def test_the_first_belief_alone(self):
        self.told(False, {self.first: 0})
        self.told(False, {self.first: 100})

    def test_a_first_belief_that_is_followed_by_shut_ones(self):
        city = (("a", "b"), (("hill", "a", "b", 1, 1, 0, ((0, 3),)),), (("ann", "a"),), (3, 0, 0))
        table = reached(city, STORM)
        self.assertEqual(len(table), 3)
        word, ranks = tour_for(city, STORM)
        self.assertEqual((word, sorted(ranks.values())), ("none", [0, 0, 1]))
        self.assertTrue(is_tourless(city, STORM, ranks))
        self.assertFalse(is_tourless(city, STORM, {**ranks, first_of(city, STORM): 0}))

    def test_beliefs_that_can_not_be_come_to(self):
        # Each one that is told counts, whether or not it can be come to.
        time, ploughs, cases = self.first
        states = [state for state, _ in self.sky[1]]
        full = tuple(street[5] + 1 for street in self.city[1])
        lost = []
        for hour in range(self.city[3][0]):
            for state in states:
                belief = (hour, ploughs, ((state, full),))
                if belief not in self.table and shut(self.city, belief):
                    lost.append(belief)
        self.assertTrue(lost)
        for belief in lost:
            self.told(True, {**self.ranks, belief: 0})
            self.told(True, {**self.ranks, belief: 12})
            for rank in (-1, True, None, "0"):
                self.told(False, {**self.ranks, belief: rank})
        empty = tuple(0 for _ in full)
        others = [(time, ploughs, ((state, empty),)) for state in states]
        others = [belief for belief in others if belief not in self.table]
        self.assertTrue(others)
        for belief in others:
            self.told(False, {**self.ranks, belief: 0})
            self.told(False, {**self.ranks, belief: 1000})

    def test_keys_that_are_no_beliefs(self):
        time, ploughs, cases = self.first
        ((state, snow),) = cases
        keys = [None, 0, "first", (), (time, ploughs), (*self.first, 0), (time, ploughs, ()), (-1, ploughs, cases), (99, ploughs, cases)]
        keys += [(time, (), cases), (time, (("down",),) * len(ploughs), cases), (time, None, cases), (time, ploughs, None)]
        keys += [(time, ploughs, (("nothing", snow),)), (time, ploughs, ((state,),)), (time, ploughs, ((state, ()),)), (time, ploughs, (None,))]
        keys += [(time, ploughs, ((state, snow), (state, snow))), (time, ploughs, ((state, (99,) * len(snow)),)), ("0", ploughs, cases)]
        full = tuple(street[5] + 1 for street in self.city[1])
        keys.append((time, ploughs, ((state, full), (state, snow))))
        keys += [(time, ploughs, 5), (time, ploughs, "cases")]
        # Shut ones, but for one case that is none.
        hour = [hour for hour in range(self.city[3][0]) if shut(self.city, (hour, ploughs, ((state, full),)))][0]
        self.told(True, {**self.ranks, (hour, ploughs, ((state, full),)): 0})
        for case in (("zzz", full), (state, full + (0,)), (state,), (state, full, 0), None, (state, (99,) * len(full))):
            keys += [(hour, ploughs, ((state, full), case)), (hour, ploughs, (case, (state, full)))]
        for key in keys:
            self.told(False, {**self.ranks, key: 0})

    def test_other_things(self):
        for thing in OTHER_THINGS:
            self.told_of_any(thing)
        self.told_of_any(tuple(self.ranks.items()))
        self.told_of_any(list(self.ranks))
        self.told_of_any(set(self.ranks))

    def told_of_any(self, thing):
        self.assertIs(is_tourless(self.city, self.sky, thing), False)


class Limits(unittest.TestCase):
    def around(self, states, ahead=0):
        """A sky that goes round some states, from which others lead there first."""
        names = [f"e{number}" for number in range(ahead)] + [f"s{number}" for number in range(states)]
        following = names[1:] + [names[ahead]]
        return names[0], tuple((name, ((after, ()),)) for name, after in zip(names, following))

    def test_just_within(self):
        for day, sky in ((25, self.around(16)), (25, self.around(1)), (24, self.around(16, 1))):
            city = empty_town(day)
            word, first, again = tour_for(city, sky)
            self.assertEqual((word, is_tour(city, sky, first, again)), ("tour", True))
        self.assertEqual(len(reached(empty_town(25), self.around(16))), 400)
        _, first, again = tour_for(empty_town(25), self.around(16))
        self.assertEqual((len(first), len(again)), (0, 400))

    def test_just_beyond(self):
        for sky in (self.around(16, 1), self.around(17), self.around(16, 14)):
            with self.assertRaises(TooMany) as caught:
                tour_for(empty_town(25), sky)
            self.assertEqual(caught.exception.most, 400)
        self.assertEqual(len(reached(empty_town(25), self.around(16, 1), 500)), 401)

    def test_just_within_and_beyond_without_a_tour(self):
        # Nobody comes before all is shut at tick 7: on tick t the plough waits, or is on its way since one of t ticks.
        for many in (7, 8):
            rows = tuple((f"r{k}", "a", "b", 9, 20, 0, ((7, 8),)) for k in range(many))
            city = (("a", "b"), rows, (("ann", "a"),), (8, 0, 0))
            sky = ("s", (("s", (("s", ("r0",)),)),))
            self.assertEqual(len(reached(city, sky, 500)), 8 * (1 + 7 * many))
            if many == 7:
                self.assertTrue(is_tourless(city, sky, tour_for(city, sky)[1]))
                self.assertEqual(len(tour_for(city, sky)[1]), 400)
            else:
                with self.assertRaises(TooMany) as caught:
                    tour_for(city, sky)
                self.assertEqual(caught.exception.most, 400)

    def test_nothing_is_looked_at_behind_a_shut_belief(self):
        # There would be far more than 400 beliefs, had the street no hours.
        rows = tuple((f"r{k}", "a", "b", 5, 9, 0, ()) for k in range(6))
        open_city = (("a", "b"), rows, (("ann", "a"), ("bob", "b")), (1, 0, 0))
        with self.assertRaises(TooMany):
            tour_for(open_city, ("s", (("s", (("s", ("r0",)),)),)))
        shut_city = (("a", "b"), (rows[0][:6] + (((0, 1),),),) + rows[1:], (("ann", "a"), ("bob", "b")), (1, 0, 0))
        word, ranks = tour_for(shut_city, ("s", (("s", (("s", ("r0",)),)),)))
        self.assertEqual((word, len(ranks)), ("none", 13 * 13 + 1))

    def test_shut_beliefs_count(self):
        # 20 streets: 41 ways to go for each of two ploughs, all of which lead to shut beliefs.
        rows = tuple((f"r{k}", "a", "b", 5, 9, 0, ((0, 1),)) for k in range(10))
        city = (("a", "b"), rows, (("ann", "a"), ("bob", "b")), (1, 0, 0))
        with self.assertRaises(TooMany) as caught:
            tour_for(city, ("s", (("s", (("s", ("r0",)),)),)))
        self.assertEqual(caught.exception.most, 400)

    def test_two_ploughs(self):
        city = with_rules(PAIR, 3, 0, 0)
        told = tour_for(city, STORM)
        self.assertEqual(told[0], "tour")
        self.assertTrue(is_tour(city, STORM, *told[1:]) and keeps_round(city, STORM, *told[1:]))


if __name__ == "__main__":
    unittest.main()
