"""[4] Standings and ticks."""

import copy
import unittest

from snowsure.cities import arcs_of, is_city, is_sky
from snowsure.errors import BadOrders, SnowError
from snowsure.world import answers_of, beginning, closed_streets, follow, followers, is_standing, orders_of
from tests import slow
from tests.samples import FAIR, OTHER_THINGS, TOWN, small_worlds, with_rules

# Two streets from a, one from b on; passes and works of their own; a clear sky and one that snows on some.
CITY = (
    ("a", "b", "c"),
    (("road", "a", "b", 2, 3, 1, ((1, 2), (3, 5))), ("lane", "c", "a", 1, 4, 0, ()), ("way", "b", "c", 1, 1, 9, ((0, 6),))),
    (("ann", "a"), ("bob", "b")),
    (6, 1, 1),
)
SKY = ("s", (("s", (("s", ()), ("t", ("way", "road")))), ("t", (("s", ("lane",)), ("t", ()), ("s", ())))))


def standing(time=0, state="s", snow=(0, 0, 0), ploughs=(("at", "a"), ("at", "b")), fallen=0):
    return (time, state, snow, ploughs, fallen)


def on(street, junction, is_work, left):
    return ("on", street, junction, is_work, left)


IDLE = (None, None)
NO_COMING = (0, (False, False), None)


class Beginnings(unittest.TestCase):
    def test_beginning(self):
        self.assertTrue(is_city(CITY) and is_sky(CITY, SKY))
        self.assertEqual(beginning(TOWN, FAIR), (0, "dry", (0,), (("at", "a"),), 0))
        self.assertEqual(beginning(CITY, SKY), standing())
        self.assertEqual(beginning(CITY, ("t", SKY[1])), standing(state="t"))
        no_streets = (("a",), (), (("ann", "a"),), (1, 0, 0))
        self.assertEqual(beginning(no_streets, ("x", (("x", (("x", ()),)),))), (0, "x", (), (("at", "a"),), 0))


class Orders(unittest.TestCase):
    def test_they_stand_in_their_order(self):
        ann = [None, ("road", False), ("road", True), ("lane", False), ("lane", True)]
        bob = [None, ("road", False), ("road", True), ("way", False), ("way", True)]
        self.assertEqual(orders_of(CITY, standing()), [(one, other) for one in ann for other in bob])

    def test_none_for_ploughs_on_streets_or_down(self):
        ploughs = (on("road", "b", True, 1), ("at", "c"))
        bob = [None, ("lane", False), ("lane", True), ("way", False), ("way", True)]
        self.assertEqual(orders_of(CITY, standing(ploughs=ploughs)), [(None, other) for other in bob])
        ploughs = (("at", "c"), ("down",))
        self.assertEqual(orders_of(CITY, standing(ploughs=ploughs, fallen=1)), [(one, None) for one in bob])
        ploughs = (on("road", "b", False, 0), ("down",))
        self.assertEqual(orders_of(CITY, standing(ploughs=ploughs, fallen=1)), [IDLE])

    def test_it_is_a_list(self):
        self.assertIsInstance(orders_of(CITY, standing()), list)


class Steps(unittest.TestCase):
    def after(self, start, orders, answer, city=CITY):
        self.assertIn(answer, slow.answers(city, SKY, start, orders))
        return follow(city, SKY, start, orders, answer)

    def test_orders_take_as_long_as_streets_tell(self):
        later = self.after(standing(), (("road", False), ("road", True)), NO_COMING)
        self.assertEqual(later[3], (on("road", "b", False, 1), on("road", "a", True, 2)))
        later = self.after(standing(), (("lane", True), ("way", True)), (0, (False, True), None))
        self.assertEqual(later[3], (on("lane", "c", True, 3), ("at", "c")))
        later = self.after(standing(), (("lane", False), None), (0, (False, False), None))
        self.assertEqual(later[3], (on("lane", "c", False, 0), ("at", "b")))

    def test_each_on_a_street_has_a_tick_less(self):
        start = standing(ploughs=(on("road", "b", True, 2), on("lane", "a", True, 3)))
        later = self.after(start, IDLE, NO_COMING)
        self.assertEqual(later[3], (on("road", "b", True, 1), on("lane", "a", True, 2)))

    def test_a_plough_may_come_at_0_and_must_at_minus_late(self):
        start = standing(ploughs=(on("road", "b", False, 1), ("at", "b")))
        self.assertEqual([comes for arc, comes, breaks in answers_of(CITY, SKY, start, IDLE)][0::3], [
            (False, False), (True, False), (False, False), (True, False)])
        self.assertEqual(self.after(start, IDLE, NO_COMING)[3][0], on("road", "b", False, 0))
        self.assertEqual(self.after(start, IDLE, (0, (True, False), None))[3][0], ("at", "b"))
        must = standing(ploughs=(on("road", "b", False, 0), ("at", "b")))
        self.assertEqual({comes for arc, comes, breaks in answers_of(CITY, SKY, must, IDLE)}, {(True, False)})

    def test_lateness_0_and_5(self):
        start = standing(ploughs=(on("road", "b", False, 1), ("at", "b")))
        self.assertEqual(answers_of(with_rules(CITY, 6, 0, 0), SKY, start, IDLE), [
            (0, (True, False), None), (1, (True, False), None)])
        late = with_rules(CITY, 6, 5, 0)
        for left in (1, 0, -1, -2, -3):
            start = standing(ploughs=(on("road", "b", False, left), ("at", "b")))
            self.assertEqual(len(answers_of(late, SKY, start, IDLE)), 4, left)
            self.assertEqual(follow(late, SKY, start, IDLE, NO_COMING)[3][0], on("road", "b", False, left - 1))
        start = standing(ploughs=(on("road", "b", False, -4), ("at", "b")))
        self.assertEqual(len(answers_of(late, SKY, start, IDLE)), 2)

    def test_what_is_worked_is_cleared(self):
        start = standing(snow=(2, 1, 5), ploughs=(on("road", "b", True, 1), ("at", "b")))
        self.assertEqual(self.after(start, IDLE, (0, (True, False), None))[2], (0, 1, 5))
        self.assertEqual(self.after(start, IDLE, NO_COMING)[2], (2, 1, 5))

    def test_what_is_only_passed_is_not_cleared(self):
        start = standing(snow=(2, 1, 5), ploughs=(on("road", "b", False, 1), ("at", "b")))
        self.assertEqual(self.after(start, IDLE, (0, (True, False), None))[2], (2, 1, 5))

    def test_it_snows_behind_the_clearing(self):
        start = standing(snow=(2, 1, 5), ploughs=(on("road", "b", True, 1), ("at", "b")))
        self.assertEqual(self.after(start, IDLE, (1, (True, False), None))[2], (1, 1, 6))

    def test_a_breakdown(self):
        later = self.after(standing(), IDLE, (0, (False, False), 1))
        self.assertEqual((later[3], later[4]), ((("at", "a"), ("down",)), 1))
        start = standing(ploughs=(on("road", "b", True, 2), ("at", "b")))
        later = self.after(start, IDLE, (0, (False, False), 0))
        self.assertEqual((later[2], later[3], later[4]), ((0, 0, 0), (("down",), ("at", "b")), 1))

    def test_one_that_has_just_come_may_break_down(self):
        start = standing(snow=(2, 1, 5), ploughs=(on("road", "b", True, 1), ("at", "b")))
        later = self.after(start, IDLE, (0, (True, False), 0))
        self.assertEqual((later[2], later[3], later[4]), ((0, 1, 5), (("down",), ("at", "b")), 1))

    def test_one_that_has_just_set_out_may_break_down(self):
        later = self.after(standing(), (("road", True), None), (0, (False, False), 0))
        self.assertEqual(later[3:], ((("down",), ("at", "b")), 1))

    def test_no_more_break_down_than_falls(self):
        start = standing(ploughs=(("down",), ("at", "b")), fallen=1)
        self.assertEqual(answers_of(CITY, SKY, start, IDLE), [NO_COMING, (1, (False, False), None)])
        two = with_rules(CITY, 6, 1, 2)
        self.assertEqual(answers_of(two, SKY, start, IDLE)[:2], [NO_COMING, (0, (False, False), 1)])
        self.assertEqual(len(answers_of(two, SKY, start, IDLE)), 4)
        self.assertEqual(follow(two, SKY, start, IDLE, (0, (False, False), 1))[3:], ((("down",), ("down",)), 2))

    def test_snow_up_to_one_above_the_limit(self):
        for before, after in ((0, 1), (1, 2), (2, 2)):
            later = self.after(standing(snow=(before, 0, 0)), IDLE, (1, (False, False), None))
            self.assertEqual(later[2][0], after)
        for before, after in ((8, 9), (9, 10), (10, 10)):
            later = self.after(standing(snow=(0, 0, before)), IDLE, (1, (False, False), None))
            self.assertEqual(later[2][2], after)
        for before, after in ((0, 1), (1, 1)):
            start = standing(state="t", snow=(0, before, 0))
            self.assertEqual(self.after(start, IDLE, NO_COMING)[2], (0, after, 0))

    def test_the_arc_of_the_number(self):
        start = standing(state="t")
        told = [follow(CITY, SKY, start, IDLE, (arc, (False, False), None))[1:3] for arc in range(3)]
        self.assertEqual(told, [("s", (0, 1, 0)), ("t", (0, 0, 0)), ("s", (0, 0, 0))])

    def test_the_time(self):
        told = [self.after(standing(time=time), IDLE, NO_COMING)[0] for time in range(6)]
        self.assertEqual(told, [1, 2, 3, 4, 5, 0])
        self.assertEqual(follow(with_rules(CITY, 1, 0, 0), SKY, standing(), IDLE, NO_COMING)[0], 0)


class NamesOfTwoKinds(unittest.TestCase):
    """A junction may have the name of a street, and any name may be a word that standings use."""

    CITY = (
        ("down", "on", "at", "hill"),
        (("hill", "down", "on", 1, 2, 1, ((0, 1),)), ("down", "at", "on", 1, 2, 1, ())),
        (("at", "hill"), ("on", "down")),
        (2, 1, 2),
    )
    SKY = ("at", (("at", (("at", ("down", "hill")),)),))

    def test_a_plough_at_a_junction_that_is_called_as_a_street(self):
        self.assertTrue(is_city(self.CITY) and is_sky(self.CITY, self.SKY))
        start = beginning(self.CITY, self.SKY)
        self.assertEqual(start, (0, "at", (0, 0), (("at", "hill"), ("at", "down")), 0))
        self.assertEqual(orders_of(self.CITY, start), [(None, None), (None, ("hill", False)), (None, ("hill", True))])
        for orders in ((("hill", True), None), (None, ("down", True))):
            with self.assertRaises(BadOrders):
                follow(self.CITY, self.SKY, start, orders, (0, (False, False), None))

    def test_a_plough_at_a_junction_that_is_called_down(self):
        start = beginning(self.CITY, self.SKY)
        self.assertTrue(is_standing(self.CITY, self.SKY, start))
        self.assertEqual([answer[2] for answer in answers_of(self.CITY, self.SKY, start, IDLE)], [None, 0, 1])
        later = follow(self.CITY, self.SKY, start, IDLE, (0, (False, False), 1))
        self.assertEqual(later[3:], ((("at", "hill"), ("down",)), 1))
        self.assertTrue(is_standing(self.CITY, self.SKY, later))
        self.assertEqual(closed_streets(self.CITY, (0, "at", (2, 2), start[3], 0)), ("hill",))

    def test_rides_to_the_ends_of_the_street_alone(self):
        for junction, wanted in (("down", True), ("on", True), ("at", False), ("hill", False)):
            ploughs = (on("hill", junction, True, 1), ("at", "on"))
            self.assertIs(is_standing(self.CITY, self.SKY, (0, "at", (0, 0), ploughs, 0)), wanted)


class Answers(unittest.TestCase):
    def test_they_stand_in_their_order(self):
        start = standing(ploughs=(on("road", "b", True, 1), on("lane", "a", False, 1)))
        city = with_rules(CITY, 6, 2, 1)
        wanted = [
            (arc, (one, other), breaks)
            for arc in (0, 1)
            for one in (False, True)
            for other in (False, True)
            for breaks in (None, 0, 1)
        ]
        self.assertEqual(answers_of(city, SKY, start, IDLE), wanted)
        self.assertEqual(len(answers_of(city, SKY, standing(state="t"), IDLE)), 9)

    def test_followers_are_all_answers_with_what_follows(self):
        start = standing(snow=(1, 0, 3), ploughs=(on("road", "b", True, 1), ("at", "b")))
        for orders in orders_of(CITY, start):
            wanted = [(answer, follow(CITY, SKY, start, orders, answer)) for answer in answers_of(CITY, SKY, start, orders)]
            self.assertEqual(followers(CITY, SKY, start, orders), wanted)

    def test_small_worlds(self):
        for city, sky in small_worlds(60):
            todo = [beginning(city, sky)]
            seen = set(todo)
            while todo and len(seen) < 60:
                here = todo.pop(0)
                self.assertTrue(is_standing(city, sky, here), here)
                self.assertEqual(orders_of(city, here), slow.orders(city, here))
                for orders in orders_of(city, here):
                    answers = slow.answers(city, sky, here, orders)
                    self.assertEqual(answers_of(city, sky, here, orders), answers)
                    behind = [slow.behind(city, sky, here, orders, answer) for answer in answers]
                    self.assertEqual([follow(city, sky, here, orders, answer) for answer in answers], behind)
                    self.assertEqual(followers(city, sky, here, orders), list(zip(answers, behind)))
                    self.assertEqual(closed_streets(city, here), slow.closed(city, here))
                    new = [after for after in dict.fromkeys(behind) if after not in seen]
                    todo += new
                    seen.update(new)


class Wrong(unittest.TestCase):
    def bad_orders(self, orders, start=standing(), answer=NO_COMING):
        with self.assertRaises(BadOrders) as caught:
            follow(CITY, SKY, start, orders, answer)
        self.assertIs(caught.exception.thing, orders)
        self.assertIsInstance(caught.exception, SnowError)

    def bad_answer(self, answer, start=standing(), orders=IDLE, city=CITY):
        with self.assertRaises(BadOrders) as caught:
            follow(city, SKY, start, orders, answer)
        self.assertIs(caught.exception.thing, answer)

    def test_orders_that_cannot_be_given(self):
        for orders in (
            (), (None,), (None, None, None), [None, None], (("way", True), None), (None, ("lane", True)),
            (("nowhere", True), None), (("road", 1), None), (("road", 0), None), (("road", None), None),
            (["road", True], None), (("road",), None), (("road", True, True), None), ("road", None), (False, None),
            ((("road",), True), None), ((["road"], True), None), (({}, True), None), (("a", True), None), ((), None),
        ):
            self.bad_orders(orders)

    def test_orders_for_ploughs_at_no_junction(self):
        self.bad_orders((("road", True), None), standing(ploughs=(on("road", "b", True, 1), ("at", "b"))))
        self.bad_orders((("road", True), None), standing(ploughs=(("down",), ("at", "b")), fallen=1))

    def test_other_things_as_orders(self):
        for thing in OTHER_THINGS:
            self.bad_orders(thing)
            self.bad_orders((None, (thing, True)))
            if thing is not None:
                self.bad_orders((thing, None))
            if thing is not True and thing is not False:
                self.bad_orders((None, ("way", thing)))

    def test_answers_that_cannot_be(self):
        for answer in (
            (), (0, (False, False)), (0, (False, False), None, None), [0, (False, False), None], (0, [False, False], None),
            (-1, (False, False), None), (2, (False, False), None), (True, (False, False), None), (0.0, (False, False), None),
            (False, (False, False), None), ("0", (False, False), None), (None, (False, False), None),
            (0, (), None), (0, (False,), None), (0, (False, False, False), None), (0, (0, False), None), (0, (None, False), None),
            (0, (True, False), None), (0, (False, True), None), (0, (False, False), -1), (0, (False, False), 2),
            (0, (False, False), False), (0, (False, False), True), (0, (False, False), 0.0), (0, (False, False), "0"),
            (0, (False, False), (0,)), (0, None, None), (0, (False, "x"), None), (0, {}, None), ([0], (False, False), None),
        ):
            self.bad_answer(answer)

    def test_other_things_as_an_answer(self):
        for thing in OTHER_THINGS:
            self.bad_answer(thing)
            self.bad_answer((0, thing, None))
            if thing not in (0, 1) or isinstance(thing, bool):
                self.bad_answer((thing, (False, False), None))
                if thing is not None:
                    self.bad_answer((0, (False, False), thing))
            if thing is not False:
                self.bad_answer((0, (thing, False), None))

    def test_who_must_come_and_who_may_not(self):
        riding = standing(ploughs=(on("road", "b", True, 2), ("at", "b")))
        self.bad_answer((0, (True, False), None), riding)
        must = standing(ploughs=(on("road", "b", True, 0), ("at", "b")))
        self.bad_answer(NO_COMING, must)
        self.bad_answer((0, (1, False), None), must)
        self.bad_answer((0, (True, False), None), standing(ploughs=(("down",), ("at", "b")), fallen=1))
        prompt = with_rules(CITY, 6, 0, 1)
        self.bad_answer(NO_COMING, standing(), (None, ("way", True)), prompt)

    def test_who_breaks_down(self):
        down = standing(ploughs=(("down",), ("at", "b")), fallen=1)
        self.bad_answer((0, (False, False), 1), down)
        two = with_rules(CITY, 6, 1, 2)
        self.bad_answer((0, (False, False), 0), down, IDLE, two)
        self.bad_answer((0, (False, False), 0), standing(), IDLE, with_rules(CITY, 6, 1, 0))

    def test_of_both_the_orders_are_told(self):
        self.bad_orders((("way", True), None), answer=(9, (), None))
        self.bad_orders(None, answer=None)


class Closed(unittest.TestCase):
    def test_hours_from_begin_to_below_end(self):
        snow = (2, 1, 9)
        told = [closed_streets(CITY, standing(time=time, snow=snow)) for time in range(6)]
        self.assertEqual(told, [(), ("road",), (), ("road",), ("road",), ()])

    def test_more_snow_than_the_limit(self):
        self.assertEqual(closed_streets(CITY, standing(time=1, snow=(1, 1, 9))), ())
        self.assertEqual(closed_streets(CITY, standing(time=1, snow=(0, 1, 10))), ("way",))
        self.assertEqual(closed_streets(CITY, standing(time=1, snow=(2, 1, 10))), ("road", "way"))
        self.assertEqual(closed_streets(CITY, standing(time=2, snow=(2, 1, 10))), ("way",))

    def test_never_asked(self):
        for time in range(6):
            self.assertEqual(closed_streets(CITY, standing(time=time, snow=(0, 1, 0))), ())


class Formed(unittest.TestCase):
    def yes(self, thing, city=CITY):
        self.assertIs(is_standing(city, SKY, thing), True, thing)

    def no(self, thing, city=CITY):
        self.assertIs(is_standing(city, SKY, thing), False, thing)

    def test_formed_ones(self):
        self.yes(standing())
        self.yes(standing(5, "t", (2, 1, 10), (on("road", "a", True, 2), ("down",)), 1))
        self.yes(standing(ploughs=(("at", "c"), ("at", "c"))))

    def test_time(self):
        self.yes(standing(time=5))
        for time in (-1, 6, True, False, None, "0", 0.0, (0,)):
            self.no(standing(time=time))

    def test_state(self):
        for state in ("u", "", "road", None, 0, ("s",), ["s"], {}):
            self.no(standing(state=state))

    def test_snow(self):
        for number, most in enumerate((2, 1, 10)):
            for units in (0, most):
                self.yes(standing(snow=(0,) * number + (units,) + (0,) * (2 - number)))
            for units in (-1, most + 1, True, False, None, "0", 0.0, (0,)):
                self.no(standing(snow=(0,) * number + (units,) + (0,) * (2 - number)))
        for snow in ((), (0, 0), (0, 0, 0, 0), [0, 0, 0], None, "000", {0: 0, 1: 0, 2: 0}):
            self.no(standing(snow=snow))

    def test_ploughs_at_junctions(self):
        for plough in (
            ("at", "d"), ("at", ""), ("at", "road"), ("at", None), ("at", 0), ("at", ["a"]), ("at",), ("at", "a", "a"), ["at", "a"],
            ("in", "a"), ("AT", "a"), ("a", "at"), "a", ("", "a"), (None, "a"), (b"at", "a"),
        ):
            self.no(standing(ploughs=(plough, ("at", "b"))))
            self.no(standing(ploughs=(("at", "b"), plough)))

    def test_ploughs_on_streets(self):
        for left in (0, 1):
            self.yes(standing(ploughs=(on("road", "a", False, left), ("at", "b"))))
        for left in (0, 1, 2):
            self.yes(standing(ploughs=(on("road", "b", True, left), ("at", "b"))))
        for left in (-1, 2, True, False, None, "0", 0.0):
            self.no(standing(ploughs=(on("road", "a", False, left), ("at", "b"))))
        for left in (-1, 3, True, None):
            self.no(standing(ploughs=(on("road", "b", True, left), ("at", "b"))))
        for plough in (
            on("road", "c", True, 1), on("road", "d", True, 1), on("road", None, True, 1), on("road", ["a"], True, 1),
            on("street", "a", True, 1), on(None, "a", True, 1), on(["road"], "a", True, 1), on("road", "a", 1, 1),
            on("road", "a", None, 1), on("road", "a", "True", 1), on("road", "a", True, 1) + (0,), ("on", "road", "a", True),
            ("on",), ("on", "a"), ["on", "road", "a", True, 1],
        ):
            self.no(standing(ploughs=(plough, ("at", "b"))))

    def test_lateness(self):
        for late in range(6):
            city = with_rules(CITY, 6, late, 1)
            for is_work in (False, True):
                most = 2 if is_work else 1
                self.yes(standing(ploughs=(on("road", "a", is_work, 1 - late), ("at", "b"))), city)
                self.yes(standing(ploughs=(on("road", "a", is_work, most), ("at", "b"))), city)
                self.no(standing(ploughs=(on("road", "a", is_work, -late), ("at", "b"))), city)
                self.no(standing(ploughs=(on("road", "a", is_work, most + 1), ("at", "b"))), city)
        self.no(standing(ploughs=(on("way", "b", True, 0), ("at", "b"))), with_rules(CITY, 6, 0, 1))

    def test_how_many_ploughs(self):
        for ploughs in ((), (("at", "a"),), (("at", "a"),) * 3, [("at", "a"), ("at", "b")], None, "ab", {}):
            self.no(standing(ploughs=ploughs))

    def test_fallen(self):
        down = (("down",), ("at", "b"))
        both = (("down",), ("down",))
        self.yes(standing(ploughs=down, fallen=1))
        self.no(standing(ploughs=down, fallen=0))
        self.no(standing(ploughs=down, fallen=2))
        self.no(standing(ploughs=both, fallen=2))
        self.no(standing(ploughs=both, fallen=1))
        self.no(standing(fallen=1))
        self.yes(standing(ploughs=both, fallen=2), with_rules(CITY, 6, 1, 2))
        self.no(standing(ploughs=down, fallen=1), with_rules(CITY, 6, 1, 0))
        for fallen in (True, 1.0, None, "1", (1,)):
            self.no(standing(ploughs=down, fallen=fallen))
        for fallen in (False, -1, 0.0, None, "0"):
            self.no(standing(fallen=fallen))
        for plough in (("down", "a"), ("down", None), ["down"], "down", ("Down",), ("down",) * 5):
            self.no(standing(ploughs=(plough, ("at", "b")), fallen=1))
            self.no(standing(ploughs=(plough, ("at", "b")), fallen=0))

    def test_other_things(self):
        for thing in OTHER_THINGS:
            self.no(thing)
            self.no(standing(snow=thing))
            self.no(standing(ploughs=thing))
            self.no(standing(ploughs=(("at", "a"), thing)))
            self.no(standing(state=thing))
        self.no(standing()[:4])
        self.no(standing() + (0,))
        self.no(list(standing()))

    def test_all_that_are_formed(self):
        for city, sky in small_worlds(12):
            for thing in slow.formed(city, sky)[::37]:
                self.assertIs(is_standing(city, sky, thing), True, thing)


class ArgumentsStay(unittest.TestCase):
    def test_wrong_ones_too(self):
        orders = [["road", True], None]
        answer = [0, [False, False], None]
        kept = copy.deepcopy((orders, answer))
        with self.assertRaises(BadOrders):
            follow(CITY, SKY, standing(), orders, NO_COMING)
        with self.assertRaises(BadOrders):
            follow(CITY, SKY, standing(), IDLE, answer)
        is_standing(CITY, SKY, orders)
        self.assertEqual((orders, answer), kept)

    def test_lists_are_made_anew(self):
        first = orders_of(CITY, standing())
        first.clear()
        self.assertEqual(len(orders_of(CITY, standing())), 25)
        answers_of(CITY, SKY, standing(), IDLE).clear()
        followers(CITY, SKY, standing(), IDLE).clear()
        self.assertEqual(len(answers_of(CITY, SKY, standing(), IDLE)), 6)
        self.assertEqual(arcs_of(SKY, "s"), SKY[1][0][1])


if __name__ == "__main__":
    unittest.main()
