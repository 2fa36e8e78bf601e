"""[25] Who is to blame."""

import copy
import random
import unittest

from snowsure.blame import blame, happened, is_event, way_of, wrong_with
from snowsure.deskerrors import BadBook
from snowsure.games import verdict
from snowsure.runs import first_closed
from snowsure.world import beginning
from tests import slow
from tests.samples import ALWAYS, FAIR, KEPT, OTHER_THINGS, STORM, TOWN, kept_worlds

FIRST = beginning(KEPT, STORM)
IDLE = ((None,), 0, ("hill",), (False,), ())
WORK = ((("hill", True),), 0, ("hill",), (True,), ())

# Two streets, three ploughs, one of which may break down; rides may be one tick late.
STREETS = (("s0", "a", "b", 1, 3, 2, ()), ("s1", "b", "c", 2, 2, 1, ((0, 4),)))
WIDE = (("a", "b", "c"), STREETS, (("p0", "a"), ("p1", "b"), ("p2", "c")), (4, 1, 1))
SKY = ("x", (("x", (("y", ("s0",)), ("x", ()))), ("y", (("x", ("s0", "s1")),))))
START = beginning(WIDE, SKY)
MIXED = (1, "y", (2, 0), (("on", "s0", "b", True, 1), ("at", "b"), ("down",)), 1)
GOOD = ((("s0", True), None, ("s1", False)), 0, ("s0",), (False, False, False), ())


def step(city, sky, standing, event):
    """The standing behind an event, told a second time."""
    orders, arc, streets, comes, broken = event
    snow = {street[0]: units for street, units in zip(city[1], standing[2])}
    ploughs = slow.ridden(city, standing, orders)
    for number, here in enumerate(comes):
        if here:
            if ploughs[number][3]:
                snow[ploughs[number][1]] = 0
            ploughs[number] = ["at", ploughs[number][2]]
    for number in broken:
        ploughs[number] = ["down"]
    for name in streets:
        snow[name] += 1
    state = standing[1]
    arcs = slow.arcs(sky, state)
    if arc in range(len(arcs)):
        state = arcs[arc][0]
    kept = tuple(min(snow[street[0]], street[5] + 1) for street in city[1])
    return ((standing[0] + 1) % city[3][0], state, kept, tuple(map(tuple, ploughs)), standing[4] + len(broken))


def words(city, sky, rule, standing, event):
    """What was wrong with an event, told a second time."""
    orders, arc, streets, comes, broken = event
    found = []
    if rule.get(standing) != orders:
        found.append("orders")
    arcs = slow.arcs(sky, standing[1])
    if arc not in range(len(arcs)):
        found.append("arc")
    elif set(streets) != set(arcs[arc][1]):
        found.append("snow")
    ploughs = slow.ridden(city, standing, orders)
    if any(here and plough[4] > 0 for plough, here in zip(ploughs, comes)):
        found.append("early")
    if any(not here and plough[0] == "on" and plough[4] <= -city[3][1] for plough, here in zip(ploughs, comes)):
        found.append("late")
    if len(broken) > 1 or (broken and standing[4] >= city[3][2]):
        found.append("breaks")
    return tuple(found)


def drawn_event(city, sky, rule, standing, rng, care):
    """An event, drawn: what was told is kept to with some care."""
    orders = rule[standing] if standing in rule and rng.random() < care else rng.choice(slow.orders(city, standing))
    arcs = slow.arcs(sky, standing[1])
    arc = rng.randrange(len(arcs)) if rng.random() < care else rng.randint(-1, len(arcs))
    names = [street[0] for street in city[1]]
    streets = tuple(rng.sample(names, rng.randint(0, len(names))))
    if arc in range(len(arcs)) and rng.random() < care:
        streets = arcs[arc][1]
    comes = []
    for plough in slow.ridden(city, standing, orders):
        if plough[0] != "on":
            comes.append(False)
        elif rng.random() < care:
            comes.append(plough[4] <= 0 and (plough[4] <= -city[3][1] or rng.random() < 0.5))
        else:
            comes.append(rng.random() < 0.5)
    up = [number for number, plough in enumerate(standing[3]) if plough[0] != "down"]
    broken = ()
    if rng.random() > care:
        broken = tuple(rng.sample(up, rng.randint(0, len(up))))
    return orders, arc, streets, tuple(comes), broken


class EventCase(unittest.TestCase):
    def event(self, wanted, city, sky, standing, thing):
        before = repr((city, sky, standing, thing))
        self.assertIs(is_event(city, sky, standing, thing), wanted, thing)
        self.assertEqual(repr((city, sky, standing, thing)), before)

    def behind(self, city, sky, standing, event):
        before = copy.deepcopy((city, sky, standing, event))
        told = happened(city, sky, standing, event)
        self.assertEqual((city, sky, standing, event), before)
        self.assertEqual(told, step(city, sky, standing, event))
        return told

    def wrong(self, city, sky, rule, standing, event):
        before = copy.deepcopy((city, sky, rule, standing, event))
        told = wrong_with(city, sky, rule, standing, event)
        self.assertEqual((city, sky, rule, standing, event), before)
        self.assertIsInstance(told, tuple)
        self.assertEqual(told, words(city, sky, rule, standing, event))
        return told


class Events(EventCase):
    def changed(self, place, value, event=GOOD):
        return event[:place] + (value,) + event[place + 1:]

    def test_right_ones(self):
        self.event(True, KEPT, STORM, FIRST, IDLE)
        self.event(True, KEPT, STORM, FIRST, WORK)
        self.event(True, WIDE, SKY, START, GOOD)
        self.event(True, WIDE, SKY, MIXED, ((None, ("s0", False), None), 0, ("s1", "s0"), (True, True, False), (1, 0)))
        for arc in (0, 1, 2, -1, -99, 10 ** 9):
            self.event(True, WIDE, SKY, START, self.changed(1, arc))

    def test_orders(self):
        for orders in (
            (None, None), (None,) * 4, (), [None, None, None], None, 0, "---", {}, (("s1", True), None, None), (("moon", True), None, None),
            (("s0", 1), None, None), (("s0", 0), None, None), (("s0",), None, None), (["s0", True], None, None), (("s0", True, 0), None, None),
            (True, None, None), (False, None, None), ((), None, None), (([], True), None, None),
        ):
            self.event(False, WIDE, SKY, START, self.changed(0, orders))
        # Who is on a street or down gets none.
        self.event(True, WIDE, SKY, MIXED, ((None, None, None), 0, (), (False,) * 3, ()))
        self.event(False, WIDE, SKY, MIXED, ((("s0", True), None, None), 0, (), (False,) * 3, ()))
        self.event(False, WIDE, SKY, MIXED, ((None, None, ("s1", True)), 0, (), (False,) * 3, ()))

    def test_arcs(self):
        for arc in (True, False, None, "0", 0.0, 1.5, (0,), [0], {}):
            self.event(False, WIDE, SKY, START, self.changed(1, arc))

    def test_streets(self):
        for streets in ((), ("s0",), ("s1",), ("s1", "s0"), ("s0", "s1")):
            self.event(True, WIDE, SKY, START, self.changed(2, streets))
        for streets in (
            ("s0", "s0"), ("s0", "s1", "s0"), ("moon",), ("s0", "moon"), ("a",), ("p0",), (None,), (0,), (["s0"],), (("s0",),), ["s0"], "s0", None, 0, {"s0"},
            {"s0": 1}, ("",), ("s0", None), (True,), ({},),
        ):
            self.event(False, WIDE, SKY, START, self.changed(2, streets))

    def test_comes(self):
        # Only those come that are on a street, their order begun; how many ticks are left is no matter.
        for comes in ((True, False, False), (False, False, True), (True, False, True)):
            self.event(True, WIDE, SKY, START, self.changed(3, comes))
        for comes in (
            (False, True, False), (True, True, True), (False, False), (False,) * 4, (), [False] * 3, None, 0, "nnn", (0, False, False), (1, False, False),
            (None, False, False), ("y", False, False), ([], False, False), (False, 0, False), {},
        ):
            self.event(False, WIDE, SKY, START, self.changed(3, comes))
        self.event(False, WIDE, SKY, MIXED, ((None, None, None), 0, (), (False, True, False), ()))
        self.event(False, WIDE, SKY, MIXED, ((None, None, None), 0, (), (False, False, True), ()))
        self.event(True, WIDE, SKY, MIXED, ((None, ("s1", True), None), 0, (), (False, True, False), ()))

    def test_broken(self):
        for broken in ((), (0,), (1,), (2,), (2, 0), (0, 1, 2), (1, 2, 0)):
            self.event(True, WIDE, SKY, START, self.changed(4, broken))
        for broken in (
            (0, 0), (0, 1, 0), (3,), (-1,), (0, 3), (True,), (False,), (None,), ("0",), (0.0,), ("p0",), ([0],), ((0,),), [0], 0, None, {0}, {}, "0", (0, None),
        ):
            self.event(False, WIDE, SKY, START, self.changed(4, broken))
        for broken, wanted in (((0,), True), ((1, 0), True), ((2,), False), ((0, 2), False)):
            self.event(wanted, WIDE, SKY, MIXED, ((None, None, None), 0, (), (False,) * 3, broken))
        # Also one that has just come.
        self.event(True, WIDE, SKY, MIXED, ((None, None, None), 0, (), (True, False, False), (0,)))

    def test_of_standings_as_only_events_bring_them(self):
        far = (1, "y", (2, 0), (("on", "s0", "b", True, -7), ("down",), ("down",)), 2)
        self.event(True, WIDE, SKY, far, ((None, None, None), 5, ("s0",), (True, False, False), (0,)))
        self.event(False, WIDE, SKY, far, ((None, None, None), 5, ("s0",), (True, False, False), (1,)))

    def test_other_things(self):
        for thing in OTHER_THINGS + (list(GOOD), GOOD[:4], GOOD + ((),), (GOOD,), {GOOD: 1}, GOOD[1:] + GOOD[:1], ((),) * 5, (None,) * 5, "abcde"):
            self.event(False, WIDE, SKY, START, thing)


class Happened(EventCase):
    def test_to_the_sign(self):
        self.assertEqual(self.behind(KEPT, STORM, FIRST, IDLE), (1, "s", (1,), (("at", "a"),), 0))
        self.assertEqual(self.behind(KEPT, STORM, FIRST, WORK), (1, "s", (1,), (("at", "b"),), 0))
        self.assertEqual(
            self.behind(WIDE, SKY, START, GOOD),
            (1, "y", (1, 0), (("on", "s0", "b", True, 2), ("at", "b"), ("on", "s1", "b", False, 1)), 0),
        )

    def test_early(self):
        told = self.behind(WIDE, SKY, START, GOOD[:3] + ((True, False, True), ()))
        self.assertEqual(told, (1, "y", (1, 0), (("at", "b"), ("at", "b"), ("at", "b")), 0))
        told = self.behind(WIDE, SKY, MIXED, ((None, None, None), 0, (), (True, False, False), ()))
        self.assertEqual(told, (2, "x", (0, 0), (("at", "b"), ("at", "b"), ("down",)), 1))

    def test_late(self):
        standing = MIXED
        for left in (0, -1, -2, -3, -4, -5, -6):
            standing = self.behind(WIDE, SKY, standing, ((None, None, None), 9, (), (False,) * 3, ()))
            self.assertEqual(standing[3][0], ("on", "s0", "b", True, left))
            self.assertEqual(standing[1:3], MIXED[1:3])
        told = self.behind(WIDE, SKY, standing, ((None, None, None), 0, ("s1",), (True, False, False), ()))
        self.assertEqual(told[1:], ("x", (0, 1), (("at", "b"), ("at", "b"), ("down",)), 1))

    def test_arcs(self):
        for arc, state in ((0, "y"), (1, "x"), (2, "x"), (-1, "x"), (-2, "x"), (99, "x")):
            told = self.behind(WIDE, SKY, START, ((None,) * 3, arc, ("s1",), (False,) * 3, ()))
            self.assertEqual((told[1], told[2]), (state, (0, 1)))
        # Of the other state -1 is no arc either.
        self.assertEqual(self.behind(WIDE, SKY, MIXED, ((None,) * 3, -1, (), (False,) * 3, ()))[1], "y")

    def test_snow(self):
        # What falls is a unit each, whatever was told, up to one more than the limit.
        standing = START
        for many in (1, 2, 3, 3, 3):
            standing = self.behind(WIDE, SKY, standing, ((None,) * 3, 1, ("s0",), (False,) * 3, ()))
            self.assertEqual(standing[2], (many, 0))
        self.assertEqual(self.behind(WIDE, SKY, standing, ((None,) * 3, 0, (), (False,) * 3, ()))[2], (3, 0))
        # It falls behind the ploughs.
        told = self.behind(WIDE, SKY, standing, ((("s0", True), None, None), 0, ("s0",), (True, False, False), ()))
        self.assertEqual(told[2], (1, 0))

    def test_breakdowns(self):
        told = self.behind(WIDE, SKY, START, GOOD[:4] + ((0, 2, 1),))
        self.assertEqual((told[3], told[4]), ((("down",),) * 3, 3))
        told = self.behind(WIDE, SKY, MIXED, ((None,) * 3, 0, (), (True, False, False), (0,)))
        self.assertEqual((told[2], told[3], told[4]), ((0, 0), (("down",), ("at", "b"), ("down",)), 2))

    def test_time(self):
        standing = START
        for time in (1, 2, 3, 0, 1):
            standing = self.behind(WIDE, SKY, standing, ((None,) * 3, 0, (), (False,) * 3, ()))
            self.assertEqual(standing[0], time)

    def test_an_answer_is_an_event(self):
        for city, sky, rule in kept_worlds(20):
            for standing in list(rule)[:8]:
                for answer in slow.answers(city, sky, standing, rule[standing]):
                    arc, comes, breaks = answer
                    event = (rule[standing], arc, slow.arcs(sky, standing[1])[arc][1], comes, () if breaks is None else (breaks,))
                    self.event(True, city, sky, standing, event)
                    self.assertEqual(self.behind(city, sky, standing, event), slow.behind(city, sky, standing, rule[standing], answer))
                    self.assertEqual(self.wrong(city, sky, rule, standing, event), ())


class Wrong(EventCase):
    RULE = {START: GOOD[0], MIXED: (None, ("s1", False), None)}

    def told(self, wanted, standing, event, rule=RULE):
        self.event(True, WIDE, SKY, standing, event)
        self.assertEqual(self.wrong(WIDE, SKY, rule, standing, event), wanted)

    def test_nothing(self):
        self.told((), START, GOOD)
        self.told((), START, GOOD[:1] + (1, ()) + GOOD[3:])
        self.told((), START, GOOD[:4] + ((1,),))
        self.told((), MIXED, (self.RULE[MIXED], 0, ("s1", "s0"), (True, False, False), ()))
        self.told((), MIXED, (self.RULE[MIXED], 0, ("s0", "s1"), (False, False, False), ()))

    def test_orders(self):
        self.told(("orders",), START, ((None,) * 3,) + GOOD[1:])
        self.told(("orders",), START, ((("s0", False), None, ("s1", False)),) + GOOD[1:])
        self.told(("orders",), START, GOOD, {})
        self.told(("orders",), START, GOOD, {MIXED: GOOD[0]})

    def test_arc(self):
        for arc in (2, -1, -2, 99):
            self.told(("arc",), START, GOOD[:1] + (arc,) + GOOD[2:])
            self.told(("arc",), START, GOOD[:1] + (arc, ()) + GOOD[3:])
        self.told(("arc",), MIXED, (self.RULE[MIXED], 1, ("s0",), (False,) * 3, ()))

    def test_snow(self):
        for streets in ((), ("s1",), ("s0", "s1"), ("s1", "s0")):
            self.told(("snow",), START, GOOD[:2] + (streets,) + GOOD[3:])
        self.told(("snow",), START, GOOD[:1] + (1, ("s0",)) + GOOD[3:])
        for streets in ((), ("s0",), ("s1",)):
            self.told(("snow",), MIXED, (self.RULE[MIXED], 0, streets, (False,) * 3, ()))

    def test_early(self):
        self.told(("early",), START, GOOD[:3] + ((True, False, False), ()))
        self.told(("early",), START, GOOD[:3] + ((False, False, True), ()))
        passing = (("s0", False), None, None)
        self.told((), START, (passing, 0, ("s0",), (True, False, False), ()), {START: passing})
        self.told((), START, (passing, 0, ("s0",), (False, False, False), ()), {START: passing})

    def test_late(self):
        event = ((None,) * 3, 0, ("s0", "s1"), (False,) * 3, ())
        for left, wanted in ((3, ()), (2, ()), (1, ()), (0, ("late",)), (-1, ("late",)), (-9, ("late",))):
            standing = (1, "y", (2, 0), (("on", "s0", "b", True, left), ("at", "b"), ("down",)), 1)
            self.told(wanted, standing, event, {standing: event[0]})
            came = event[:3] + ((True, False, False), ())
            self.told(("early",) if left > 1 else (), standing, came, {standing: event[0]})
        # Who breaks down on the tick on which they must come hasn't come either.
        standing = (1, "y", (2, 0), (("on", "s0", "b", True, 0), ("at", "b"), ("at", "c")), 0)
        self.told(("late",), standing, event[:4] + ((0,),), {standing: event[0]})
        self.told((), standing, event[:3] + ((True, False, False), (0,)), {standing: event[0]})

    def test_late_without_lateness(self):
        city = WIDE[:3] + ((4, 0, 1),)
        passing = (("s0", False), None, None)
        event = (passing, 0, ("s0",), (False, False, False), ())
        self.assertEqual(self.wrong(city, SKY, {START: passing}, START, event), ("late",))
        self.assertEqual(self.wrong(city, SKY, {START: passing}, START, event[:3] + ((True, False, False), ())), ())

    def test_breaks(self):
        for broken in ((0, 1), (2, 1), (0, 1, 2)):
            self.told(("breaks",), START, GOOD[:4] + (broken,))
        event = (self.RULE[MIXED], 0, ("s0", "s1"), (False,) * 3, ())
        for broken in ((0,), (1,), (0, 1)):
            self.told(("breaks",), MIXED, event[:4] + (broken,))
        # One more than may be down already.
        standing = (1, "y", (2, 0), (("at", "b"), ("down",), ("down",)), 2)
        self.told((), standing, ((None,) * 3, 0, ("s0", "s1"), (False,) * 3, ()), {standing: (None,) * 3})
        self.told(("breaks",), standing, ((None,) * 3, 0, ("s0", "s1"), (False,) * 3, (0,)), {standing: (None,) * 3})

    def test_several_in_their_order(self):
        standing = (1, "x", (2, 0), (("on", "s0", "b", True, 3), ("on", "s1", "c", True, -1), ("at", "c")), 0)
        event = ((None,) * 3, 2, (), (True, False, False), (0, 2))
        self.told(("orders", "arc", "early", "late", "breaks"), standing, event, {})
        self.told(("orders", "snow", "early", "late", "breaks"), standing, event[:1] + (0,) + event[2:], {})
        self.told(("snow", "late"), standing, ((None,) * 3, 0, (), (False, False, False), ()), {standing: (None,) * 3})

    def test_drawn(self):
        rng = random.Random(25)
        seen = set()
        for city, sky, rule in ((WIDE, SKY, self.RULE),) + kept_worlds(40):
            for care in (0.3, 0.7, 0.9, 1):
                standing = slow.start(city, sky)
                for _ in range(25):
                    event = drawn_event(city, sky, rule, standing, rng, care)
                    self.event(True, city, sky, standing, event)
                    seen.add(self.wrong(city, sky, rule, standing, event))
                    standing = self.behind(city, sky, standing, event)
        self.assertEqual({word for found in seen for word in found}, {"orders", "arc", "snow", "early", "late", "breaks"})
        self.assertIn((), seen)
        self.assertGreater(len(seen), 25)


class Ways(unittest.TestCase):
    def check(self, city, sky, events):
        before = copy.deepcopy(events)
        told = way_of(city, sky, events)
        self.assertEqual(events, before)
        self.assertIsInstance(told, list)
        wanted = [slow.start(city, sky)]
        for event in events:
            wanted.append(step(city, sky, wanted[-1], event))
        self.assertEqual(told, wanted)
        return told

    def test_no_event(self):
        self.assertEqual(self.check(KEPT, STORM, ()), [FIRST])
        self.assertEqual(self.check(KEPT, STORM, []), [FIRST])

    def test_events(self):
        self.assertEqual(self.check(KEPT, STORM, (IDLE, WORK))[1:], [(1, "s", (1,), (("at", "a"),), 0), (2, "s", (1,), (("at", "b"),), 0)])
        self.assertEqual(self.check(KEPT, STORM, [IDLE] * 9)[-1], (0, "s", (3,), (("at", "a"),), 0))

    def test_drawn(self):
        rng = random.Random(26)
        for city, sky, rule in kept_worlds(30):
            standing = slow.start(city, sky)
            events = []
            for _ in range(20):
                events.append(drawn_event(city, sky, rule, standing, rng, 0.8))
                standing = step(city, sky, standing, events[-1])
            self.assertEqual(self.check(city, sky, tuple(events)), self.check(city, sky, events))

    def test_what_is_no_event(self):
        for bad in OTHER_THINGS + (IDLE[:4], list(IDLE), ((None,), True, (), (False,), ()), ((None,), 0, (), (True,), ()), ((("moon", True),),) + IDLE[1:]):
            for events, number in (((bad,), 0), ((IDLE, WORK, bad), 2), ([IDLE, bad, WORK, bad], 1), ([WORK] * 7 + [bad], 7)):
                for call in (lambda: way_of(KEPT, STORM, events), lambda: blame(KEPT, STORM, ALWAYS, events)):
                    with self.assertRaises(BadBook) as caught:
                        call()
                    self.assertEqual(caught.exception.why, number)
                    self.assertIs(type(caught.exception.why), int)

    def test_an_event_of_another_standing(self):
        # At the second one the plough is down.
        down = IDLE[:4] + ((0,),)
        with self.assertRaises(BadBook) as caught:
            way_of(KEPT, STORM, (down, WORK))
        self.assertEqual(caught.exception.why, 1)
        with self.assertRaises(BadBook) as caught:
            way_of(KEPT, STORM, (down, IDLE, down))
        self.assertEqual(caught.exception.why, 2)


class Blamed(unittest.TestCase):
    def check(self, city, sky, rule, events):
        before = copy.deepcopy((rule, events))
        told = blame(city, sky, rule, events)
        self.assertEqual((rule, events), before)
        way = [slow.start(city, sky)]
        for event in events:
            way.append(step(city, sky, way[-1], event))
        closed = [(number, slow.closed(city, standing)) for number, standing in enumerate(way) if slow.closed(city, standing)]
        if not closed:
            self.assertIsNone(told)
        else:
            tick, streets = closed[0]
            faults = [(number, words(city, sky, rule, way[number], event)) for number, event in enumerate(events) if number < tick]
            self.assertEqual(told, (tick, streets, tuple((number, found) for number, found in faults if found)))
        return told

    def test_to_the_sign(self):
        self.assertIsNone(self.check(KEPT, STORM, ALWAYS, ()))
        self.assertIsNone(self.check(KEPT, STORM, ALWAYS, (IDLE,)))
        self.assertEqual(self.check(KEPT, STORM, ALWAYS, (IDLE,) * 3), (3, ("hill",), tuple((number, ("orders",)) for number in range(3))))
        self.assertEqual(self.check(KEPT, STORM, ALWAYS, [IDLE] * 3), self.check(KEPT, STORM, ALWAYS, (IDLE,) * 3))

    def test_who_keeps_to_what_was_told(self):
        self.assertIsNone(self.check(KEPT, STORM, ALWAYS, (WORK,) * 50))
        rng = random.Random(27)
        for city, sky, rule in kept_worlds(40):
            standing = slow.start(city, sky)
            events = []
            for _ in range(40):
                answer = rng.choice(slow.answers(city, sky, standing, rule[standing]))
                arc, comes, breaks = answer
                events.append((rule[standing], arc, slow.arcs(sky, standing[1])[arc][1], comes, () if breaks is None else (breaks,)))
                standing = slow.behind(city, sky, standing, rule[standing], answer)
            self.assertIsNone(self.check(city, sky, rule, events))

    def test_only_events_ahead_of_the_first_closed_standing(self):
        # Work, then three idle ticks; what is wrong behind the closed one is no matter.
        events = (WORK,) + (IDLE,) * 6
        self.assertEqual(self.check(KEPT, STORM, ALWAYS, events), (3, ("hill",), ((1, ("orders",)), (2, ("orders",)))))
        self.assertEqual(self.check(KEPT, STORM, ALWAYS, events[:3]), (3, ("hill",), ((1, ("orders",)), (2, ("orders",)))))
        self.assertIsNone(self.check(KEPT, STORM, ALWAYS, events[:2]))

    def test_late_beyond_what_is_told(self):
        rule = verdict(TOWN, FAIR)[1]
        wet = ((("hill", True),), 1, ("hill",), (False,), ())
        dry = ((None,), 0, (), (False,), ())
        events = (wet, dry, ((None,), 1, ("hill",), (False,), ()))
        tick, streets, faults = self.check(TOWN, FAIR, rule, events)
        self.assertEqual((tick, streets), (3, ("hill",)))
        # One tick late is as told, from the second one on it isn't.
        self.assertEqual([number for number, found in faults if "late" in found], [1, 2])

    def test_drawn(self):
        rng = random.Random(28)
        many = 0
        sole = set()
        for city, sky, rule in kept_worlds(60):
            for care in (0.8, 0.95, 0.98):
                standing = slow.start(city, sky)
                events = []
                for _ in range(30):
                    events.append(drawn_event(city, sky, rule, standing, rng, care))
                    standing = step(city, sky, standing, events[-1])
                told = self.check(city, sky, rule, tuple(events))
                if told is not None:
                    many += 1
                    self.assertEqual(told[:2], first_closed(city, way_of(city, sky, events)))
                    # The rule keeps the promise: somebody else is to blame.
                    self.assertNotEqual(told[2], ())
                    sole |= {found for _, found in told[2] if len(found) == 1}
        self.assertGreater(many, 40)
        self.assertGreater(len(sole), 3)

    def test_a_rule_that_keeps_nothing(self):
        self.assertEqual(self.check(KEPT, STORM, {}, (WORK, WORK, IDLE, IDLE, IDLE))[2], tuple((number, ("orders",)) for number in range(4)))
        idle = {FIRST: (None,), (1, "s", (1,), (("at", "a"),), 0): (None,), (2, "s", (2,), (("at", "a"),), 0): (None,)}
        self.assertEqual(self.check(KEPT, STORM, idle, (IDLE,) * 3), (3, ("hill",), ()))


if __name__ == "__main__":
    unittest.main()
