"""[19] Rules carried over; [20] what is left of a rule."""

import copy
import random
import unittest

from snowsure.carrying import carried_rule, is_milder, kept_part
from snowsure.errors import BadPaper
from snowsure.games import verdict
from snowsure.madeskies import calm_sky, either_sky, noticed_sky, spared_sky, worst_sky
from snowsure.papers import is_rule
from snowsure.skies import compared
from snowsure.world import beginning
from tests import slow
from tests.samples import ALWAYS, FAIR, HILL, KEPT, OTHER_THINGS, PAIR, STORM, TOWN, kept_worlds, small_hours, small_worlds

BASE = (
    ("a", "b", "c"),
    (("s0", "a", "b", 1, 2, 1, ((1, 3), (5, 8))), ("s1", "b", "c", 2, 3, 2, ())),
    (("p0", "a"), ("p1", "c")),
    (8, 2, 1),
)


def with_street(city, number, place, value):
    streets = [list(street) for street in city[1]]
    streets[number][place] = value
    return (city[0], tuple(tuple(street) for street in streets)) + city[2:]


def with_rule(city, place, value):
    rules = list(city[3])
    rules[place] = value
    return city[:3] + (tuple(rules),)


def asked(street):
    return {tick for begin, end in street[6] for tick in range(begin, end)}


def milder(city, other):
    """Told a second time."""
    for street, harder in zip(city[1], other[1]):
        if street[:5] != harder[:5] or street[5] < harder[5] or asked(street) - asked(harder):
            return False
    if city[0] != other[0] or len(city[1]) != len(other[1]) or city[3][0] != other[3][0]:
        return False
    if len(city[2]) < len(other[2]) or any(one != two for one, two in zip(city[2], other[2])):
        return False
    return city[3][1] <= other[3][1] and city[3][2] <= other[3][2]


class Milder(unittest.TestCase):
    def told(self, wanted, city, other=BASE):
        before = copy.deepcopy((city, other))
        self.assertIs(is_milder(city, other), wanted, (city, other))
        self.assertEqual((city, other), before)
        self.assertEqual(milder(city, other), wanted)

    def test_the_same(self):
        self.told(True, BASE)
        self.told(True, TOWN, TOWN)
        self.told(True, PAIR, PAIR)
        self.told(True, (("a",), (), (("ann", "a"),), (1, 0, 0)), (("a",), (), (("ann", "a"),), (1, 0, 0)))

    def test_limits(self):
        self.told(True, with_street(BASE, 0, 5, 2))
        self.told(True, with_street(BASE, 1, 5, 9))
        self.told(False, with_street(BASE, 0, 5, 0))
        self.told(False, with_street(BASE, 1, 5, 1))
        self.told(False, with_street(with_street(BASE, 0, 5, 9), 1, 5, 1))

    def test_hours(self):
        for hours in ((), ((1, 3),), ((5, 8),), ((1, 2), (5, 8)), ((2, 3), (6, 7)), ((5, 6), (7, 8)), ((1, 3), (5, 8))):
            self.told(True, with_street(BASE, 0, 6, hours))
        for hours in (((0, 3), (5, 8)), ((1, 4), (5, 8)), ((1, 8),), ((4, 8),), ((3, 4),), ((0, 1),), ((1, 3), (4, 5))):
            self.told(False, with_street(BASE, 0, 6, hours))
        self.told(False, with_street(BASE, 1, 6, ((0, 1),)))
        self.told(True, BASE, with_street(BASE, 1, 6, ((7, 8),)))

    def test_hours_by_other_spans(self):
        # Where a city is none, as its spans touch, the ticks are the same all the same.
        whole = with_street(BASE, 0, 6, ((1, 6),))
        parted = with_street(BASE, 0, 6, ((1, 2), (3, 6)))
        self.told(True, parted, whole)
        self.told(False, whole, parted)
        touching = with_street(BASE, 0, 6, ((1, 2), (2, 6)))
        self.told(True, touching, whole)
        self.told(True, whole, touching)

    def test_ploughs(self):
        self.told(True, BASE[:2] + ((("p0", "a"), ("p1", "c"), ("p2", "b")), BASE[3]))
        self.told(True, BASE[:2] + ((("p0", "a"), ("p1", "c"), ("p2", "b"), ("p3", "a")), BASE[3]))
        for ploughs in (
            (("p0", "a"),), (("p1", "c"), ("p0", "a")), (("p2", "b"), ("p0", "a"), ("p1", "c")), (("p0", "a"), ("p2", "b"), ("p1", "c")),
            (("p0", "b"), ("p1", "c")), (("p0", "a"), ("p2", "c")), (("p0", "a"), ("p1", "b"), ("p2", "b")), (("p1", "c"),),
        ):
            self.told(False, BASE[:2] + (ploughs, BASE[3]))

    def test_rules(self):
        for late in range(6):
            self.told(late <= 2, with_rule(BASE, 1, late))
        for falls in range(3):
            self.told(falls <= 1, with_rule(BASE, 2, falls))
        self.told(False, with_rule(BASE, 0, 9))
        self.told(False, BASE, with_rule(BASE, 0, 9))
        more = BASE[:2] + ((("p0", "a"), ("p1", "c"), ("p2", "b")), (8, 2, 2))
        self.told(False, more)

    def test_streets(self):
        self.told(False, (BASE[0], (BASE[1][1], BASE[1][0])) + BASE[2:])
        self.told(False, (BASE[0], BASE[1][:1]) + BASE[2:])
        self.told(False, (BASE[0], ()) + BASE[2:])
        self.told(False, (BASE[0], BASE[1] + (("s2", "a", "c", 1, 1, 9, ()),)) + BASE[2:])
        for place, value in ((0, "s9"), (1, "c"), (2, "c"), (3, 2), (4, 1), (4, 3)):
            self.told(False, with_street(BASE, 0, place, value))
        self.told(False, with_street(BASE, 1, 3, 1))
        self.told(False, with_street(with_street(BASE, 0, 1, "b"), 0, 2, "a"))

    def test_junctions(self):
        self.told(False, (("a", "b", "c", "d"),) + BASE[1:])
        self.told(False, BASE, (("a", "b", "c", "d"),) + BASE[1:])
        self.told(False, (("a", "b", "d"),) + BASE[1:])

    def test_drawn(self):
        rng = random.Random(19)
        many = {True: 0, False: 0}
        for _ in range(2000):
            city = BASE
            for _ in range(rng.randint(1, 2)):
                kind = rng.randrange(5)
                if kind == 0:
                    city = with_street(city, rng.randrange(2), 5, rng.randint(0, 3))
                elif kind == 1:
                    city = with_street(city, 0, 6, small_hours(rng, 8))
                elif kind == 2:
                    city = with_rule(city, 1, rng.randint(0, 3))
                elif kind == 3:
                    city = with_rule(city, 2, rng.randint(0, 2))
                else:
                    city = city[:2] + (city[2] + ((f"q{len(city[2])}", "b"),),) + city[3:]
            wanted = milder(city, BASE)
            many[wanted] += 1
            self.told(wanted, city)
        self.assertGreater(min(many.values()), 300)


class CarryCase(unittest.TestCase):
    def carried(self, city, sky, harder, rule):
        """What is carried over keeps the promise, by the program and by a second telling."""
        word, relation = compared(sky, harder[1])
        self.assertEqual(word, "no worse")
        things = (city, sky, harder, rule, relation)
        before = copy.deepcopy(things)
        told = carried_rule(*things)
        self.assertEqual(things, before)
        self.assertEqual(told, carried_rule(*things))
        self.assertIsInstance(told, dict)
        self.assertTrue(is_rule(city, sky, told), (city, sky))
        self.assertTrue(slow.keeps(city, sky, told)[0])
        many = len(harder[0][2])
        for standing in slow.under(city, sky, told):
            self.assertEqual(told[standing][many:], (None,) * (len(city[2]) - many))
        return told

    def bad(self, *things):
        before = repr(things)
        with self.assertRaises(BadPaper) as caught:
            carried_rule(*things)
        self.assertEqual(repr(things), before)
        self.assertIn("why", vars(caught.exception))


class Carried(CarryCase):
    def test_to_the_same(self):
        self.assertEqual(self.carried(KEPT, STORM, (KEPT, STORM), ALWAYS), ALWAYS)
        for city, sky, rule in ((TOWN, FAIR, verdict(TOWN, FAIR)[1]),) + kept_worlds(20):
            self.carried(city, sky, (city, sky), rule)

    def test_calm_from_storm(self):
        told = self.carried(KEPT, calm_sky(), (KEPT, STORM), ALWAYS)
        self.assertEqual(told[beginning(KEPT, calm_sky())], (("hill", True),))
        self.assertEqual({orders for orders in told.values()}, {(("hill", True),)})

    def test_all_at_once(self):
        city = (("a", "b"), (("hill", "a", "b", 1, 1, 5, ((1, 2),)),), (("ann", "a"), ("bob", "b"), ("cid", "a")), (3, 0, 0))
        self.carried(city, STORM, (KEPT, STORM), ALWAYS)
        self.carried(city, either_sky(STORM, calm_sky()), (KEPT, worst_sky(KEPT)), renamed(ALWAYS, "s", "storm"))

    def test_ploughs_beyond_break_down(self):
        harder = (PAIR[0], (HILL,), (("ann", "a"), ("bob", "b")), (3, 0, 1))
        word, rule = verdict(harder, FAIR)
        self.assertEqual(word, "promised")
        city = harder[:2] + ((("ann", "a"), ("bob", "b"), ("cid", "a"), ("dan", "b")), (3, 0, 1))
        told = self.carried(city, FAIR, (harder, FAIR), rule)
        broken = [standing for standing in told if standing[3][2] == ("down",) or standing[3][3] == ("down",)]
        self.assertTrue(broken)

    def test_less_late_and_fewer_falls(self):
        rule = verdict(TOWN, FAIR)[1]
        self.carried(with_rule(TOWN, 1, 0), FAIR, (TOWN, FAIR), rule)
        harder = (PAIR[0], (HILL,), PAIR[2], (3, 1, 1))
        word, rule = verdict(harder, FAIR)
        self.assertEqual(word, "promised")
        for late in (0, 1):
            for falls in (0, 1):
                self.carried(harder[:3] + ((3, late, falls),), FAIR, (harder, FAIR), rule)

    def test_one_arc_of_many_answers(self):
        # Only the second arc leads to where all that may fall is answered.
        here = ("s", (("s", (("t", ()),)), ("t", (("s", ("hill",)),))))
        there = ("x", (("x", (("dry", ("hill",)), ("wet", ()))), ("dry", (("x", ()),)), ("wet", (("x", ("hill",)), ("x", ())))))
        word, rule = verdict(KEPT, there)
        self.assertEqual(word, "promised")
        self.carried(KEPT, here, (KEPT, there), rule)

    def test_drawn(self):
        rng = random.Random(20)
        many = 0
        for harder, harder_sky, rule in kept_worlds(60):
            for _ in range(4):
                city = drawn_milder(rng, harder)
                sky = drawn_no_worse(rng, harder, harder_sky)
                if sky is not None:
                    many += 1
                    self.carried(city, sky, (harder, harder_sky), rule)
        self.assertGreater(many, 100)

    def test_of_verdicts(self):
        for city, sky in small_worlds(19):
            word, paper = verdict(city, sky)
            if word == "promised":
                self.carried(city, sky, (city, sky), paper)
                self.carried(city, calm_sky(), (city, sky), paper)

    def test_what_can_not_be_come_to_counts_for_nothing(self):
        junk = {**ALWAYS, "junk": None, (0, "s"): (), (2, "s", (3,), (("at", "a"),), 0): (("moon", True),)}
        self.assertEqual(self.carried(KEPT, STORM, (KEPT, STORM), junk), self.carried(KEPT, STORM, (KEPT, STORM), ALWAYS))


def renamed(rule, old, new):
    return {(time, new if state == old else state, *rest): orders for (time, state, *rest), orders in rule.items()}


def drawn_milder(rng, city):
    for number, street in enumerate(city[1]):
        if rng.random() < 0.4:
            city = with_street(city, number, 5, min(9, street[5] + rng.randint(0, 2)))
        if rng.random() < 0.4:
            city = with_street(city, number, 6, rng.choice(((), street[6], street[6][:1])))
    if rng.random() < 0.3 and len(city[2]) < 3:
        city = city[:2] + (city[2] + (("new", rng.choice(city[0])),),) + city[3:]
    if rng.random() < 0.3:
        city = with_rule(city, 1, rng.randint(0, city[3][1]))
    if rng.random() < 0.3:
        city = with_rule(city, 2, rng.randint(0, city[3][2]))
    return city


def drawn_no_worse(rng, city, sky):
    kind = rng.randrange(4)
    streets = [street[0] for street in city[1]]
    if kind == 0:
        return sky
    if kind == 1:
        return spared_sky(sky, tuple(rng.sample(streets, 1)))
    if kind == 2:
        return either_sky(sky, calm_sky()) if compared(calm_sky(), sky)[0] == "no worse" and compared(either_sky(sky, calm_sky()), sky)[0] == "no worse" else None
    return noticed_sky(sky, (tuple(streets),) * rng.randint(0, 2))


class NotCarried(CarryCase):
    RELATION = compared(STORM, STORM)[1]

    def test_the_city_is_not_milder(self):
        for city in (
            with_street(KEPT, 0, 5, 1), with_rule(KEPT, 1, 1), with_rule(KEPT, 2, 1), with_rule(KEPT, 0, 4), with_street(KEPT, 0, 4, 2),
            KEPT[:2] + ((("ann", "b"),), KEPT[3]), (("a", "b", "c"),) + KEPT[1:],
        ):
            self.assertFalse(is_milder(city, KEPT))
            self.bad(city, STORM, (KEPT, STORM), ALWAYS, self.RELATION)
        shorter = with_street(KEPT, 0, 6, ((0, 2),))
        self.bad(KEPT, STORM, (shorter, STORM), ALWAYS, self.RELATION)
        self.carried(shorter, STORM, (KEPT, STORM), ALWAYS)

    def test_the_relation_is_none(self):
        for thing in OTHER_THINGS + (("s", "s"), [("s", "s")], {"s": "s"}, {("s", "t"): True}, compared(calm_sky(), STORM)[1]):
            self.bad(KEPT, STORM, (KEPT, STORM), ALWAYS, thing)
        self.bad(KEPT, STORM, (KEPT, calm_sky()), ALWAYS, compared(STORM, calm_sky())[1])
        self.bad(KEPT, STORM, (KEPT, calm_sky()), ALWAYS, {("s", "calm"): True})
        self.bad(KEPT, STORM, (KEPT, STORM), ALWAYS, {**self.RELATION, ("s", "moon"): True})

    def test_the_rule_lacks_a_standing(self):
        self.bad(KEPT, STORM, (KEPT, STORM), {}, self.RELATION)
        for standing in ALWAYS:
            lacking = {other: orders for other, orders in ALWAYS.items() if other != standing}
            self.bad(KEPT, STORM, (KEPT, STORM), lacking, self.RELATION)
            if standing != (0, "s", (1,), (("at", "a"),), 0):
                self.bad(KEPT, calm_sky(), (KEPT, STORM), lacking, compared(calm_sky(), STORM)[1])

    def test_the_rule_has_orders_that_can_not_be_given(self):
        for orders in ((), (None, None), (("moon", True),), (("hill", 1),), None, "-", (["hill", True],)):
            self.bad(KEPT, STORM, (KEPT, STORM), {**ALWAYS, beginning(KEPT, STORM): orders}, self.RELATION)

    def test_drawn_rules_that_lack_one(self):
        rng = random.Random(21)
        for city, sky, rule in kept_worlds(30):
            standing = rng.choice(sorted(rule))
            lacking = {other: orders for other, orders in rule.items() if other != standing}
            relation = {(state, state): True for state, _ in sky[1]}
            try:
                told = carried_rule(city, sky, (city, sky), lacking, relation)
            except BadPaper:
                continue
            self.assertTrue(is_rule(city, sky, told))


def greatest_part(city, sky, rule):
    """Told a second time: one standing after the other is taken out, as long as one is wrong."""
    formed = set(slow.formed(city, sky))
    part = {}
    for standing, orders in rule.items():
        if standing in formed and not slow.closed(city, standing) and orders in slow.orders(city, standing):
            part[standing] = {slow.behind(city, sky, standing, orders, answer) for answer in slow.answers(city, sky, standing, orders)}
    while True:
        wrong = [standing for standing, after in part.items() if not all(behind in part for behind in after)]
        if not wrong:
            return {standing: rule[standing] for standing in part}
        for standing in wrong:
            del part[standing]


class KeptPart(unittest.TestCase):
    def check(self, city, sky, rule):
        before = copy.deepcopy((city, sky, rule))
        told = kept_part(city, sky, rule)
        self.assertEqual((city, sky, rule), before)
        self.assertIsInstance(told, dict)
        self.assertIsNot(told, rule)
        self.assertEqual(told, greatest_part(city, sky, rule))
        if beginning(city, sky) in told:
            self.assertTrue(is_rule(city, sky, told))
        return told

    def test_a_rule_that_keeps_the_promise(self):
        self.assertEqual(self.check(KEPT, STORM, ALWAYS), ALWAYS)
        for city, sky, rule in kept_worlds(25):
            self.assertEqual(self.check(city, sky, rule), rule)

    def test_the_empty_dict(self):
        self.assertEqual(self.check(KEPT, STORM, {}), {})
        self.assertEqual(self.check(TOWN, FAIR, {}), {})

    def test_entries_taken_out(self):
        # All seven come to each other but for the first, which nothing comes to again.
        first = beginning(KEPT, STORM)
        for standing in ALWAYS:
            left = {other: orders for other, orders in ALWAYS.items() if other != standing}
            self.assertEqual(self.check(KEPT, STORM, left), left if standing == first else {})

    def test_entries_with_other_orders(self):
        many = [0, 0, 0]
        rng = random.Random(22)
        for city, sky, rule in kept_worlds(25):
            for _ in range(4):
                standing = rng.choice(sorted(rule))
                told = self.check(city, sky, {**rule, standing: rng.choice(slow.orders(city, standing))})
                many[0 if not told else 1 if len(told) < len(rule) else 2] += 1
                lacking = dict(rule)
                del lacking[standing]
                self.check(city, sky, lacking)
        self.assertGreater(min(many), 4)

    def test_orders_that_can_not_be_given(self):
        for orders in (
            (), (None, None), ((),), (("hill",),), (("hill", 1),), (("hill", None),), (("moon", True),), ((True, "hill"),), (["hill", True],),
            ("hill", True), ((["hill"], True),), (("hill", True, True),), ({},), (0,),
        ):
            for standing in ALWAYS:
                lacking = {other: given for other, given in ALWAYS.items() if other != standing}
                rule = {**ALWAYS, standing: orders}
                self.assertEqual(kept_part(KEPT, STORM, rule), kept_part(KEPT, STORM, lacking))
                self.assertEqual(rule, {**lacking, standing: orders})
        riding = (1, "wet", (1,), (("on", "hill", "b", True, 0),), 0)
        rule = verdict(TOWN, FAIR)[1]
        self.assertNotIn(riding, self.check(TOWN, FAIR, {**rule, riding: (("hill", True),)}))

    def test_keys_that_are_no_standings(self):
        first = beginning(KEPT, STORM)
        keys = [(), (0,), first[:4], first + (0,), (3,) + first[1:], (-1,) + first[1:], (None,) + first[1:], ("0",) + first[1:]]
        keys += [first[:1] + (state,) + first[2:] for state in ("t", None, 0, ("s",), "")]
        keys += [first[:2] + (snow,) + first[3:] for snow in ((), (4,), (-1,), (0, 0), 0, (None,), ("0",), None)]
        keys += [first[:3] + (ploughs,) + first[4:] for ploughs in (
            (), ("at",), (("at",),), (("at", "c"),), (("at", ("a",)),), (("on", "hill", "b", True, 1),), (("on", "hill", "b", True, 2),), (("down",),),
            (("at", "a"), ("at", "a")), None, ((),), ((None,),), (("down", 0),), (("on", "hill", "c", True, 0),),
        )]
        keys += [first[:4] + (fallen,) for fallen in (1, -1, None, "0")]
        # True for an integer: no standing is formed so, though Python finds it to be the same.
        keys += [(1, "s", (True,), (("at", "b"),), 0)]
        for key in keys:
            rule = {other: orders for other, orders in ALWAYS.items() if other != key}
            told = kept_part(KEPT, STORM, {key: (("hill", True),), **rule})
            self.assertEqual(told, kept_part(KEPT, STORM, rule))
            told = kept_part(KEPT, STORM, {**rule, key: (("hill", True),)})
            self.assertEqual(told, kept_part(KEPT, STORM, rule))

    def test_any_tuples(self):
        tuples = {(): (), (1, 2, 3): ("x",), ((), ((),)): (None,), ("a", b"b", 1.5, None): (1,), (0, 0, 0, 0, 0): ()}
        self.assertEqual(kept_part(KEPT, STORM, tuples), {})
        self.assertEqual(kept_part(KEPT, STORM, {**tuples, **ALWAYS}), ALWAYS)
        self.assertEqual(kept_part(TOWN, FAIR, {**tuples, **ALWAYS}), {})

    def test_closed_standings(self):
        closed = {(0, "s", (3,), (("at", "a"),), 0): (("hill", True),), (2, "s", (3,), (("at", "b"),), 0): (None,)}
        self.assertEqual(self.check(KEPT, STORM, {**ALWAYS, **closed}), ALWAYS)
        # Open where it isn't asked, which leads to no closed one.
        later = {(1, "dry", (2,), (("at", "a"),), 0): (("hill", True),)}
        rule = verdict(TOWN, FAIR)[1]
        shut = {(0, "dry", (2,), (("at", "a"),), 0): (("hill", True),)}
        told = self.check(TOWN, FAIR, {**rule, **later, **shut})
        self.assertTrue(set(shut).isdisjoint(told))

    def test_standings_that_can_not_be_come_to_are_kept(self):
        extra = {(1, "s", (2,), (("at", "a"),), 0): (("hill", True),)}
        self.assertEqual(self.check(KEPT, STORM, {**ALWAYS, **extra}), {**ALWAYS, **extra})
        round_about = {standing: orders for standing, orders in ALWAYS.items() if standing != beginning(KEPT, STORM)}
        self.assertEqual(self.check(KEPT, STORM, round_about), round_about)

    def test_in_a_changed_city(self):
        some = 0
        for city, sky, rule in kept_worlds(60):
            for number, street in enumerate(city[1]):
                for changed in (
                    with_street(city, number, 5, street[5] - 1), with_street(city, number, 6, ((0, city[3][0]),)),
                    with_street(city, number, 4, street[4] + 1), with_street(city, number, 5, street[5] + 1),
                ):
                    told = self.check(changed, sky, rule)
                    some += 0 < len(told) < len(rule)
            self.check(with_rule(city, 1, city[3][1] + 1), sky, rule)
            self.check(with_rule(city, 2, 0), sky, rule)
            self.check(with_rule(city, 0, city[3][0] + 1), sky, rule)
        self.assertGreater(some, 10)

    def test_under_a_changed_sky(self):
        some = 0
        for city, sky, rule in kept_worlds(40):
            for number, (state, arcs) in enumerate(sky[1]):
                for changed in (arcs[:1], arcs + ((state, (city[1][0][0],)),), tuple((behind, ()) for behind, _ in arcs)):
                    told = self.check(city, (sky[0], sky[1][:number] + ((state, changed),) + sky[1][number + 1:]), rule)
                    some += 0 < len(told) < len(rule)
        self.assertGreater(some, 10)


if __name__ == "__main__":
    unittest.main()
