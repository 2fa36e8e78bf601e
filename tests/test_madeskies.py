"""[18] Skies made."""

import copy
import random
import unittest

from snowsure.cities import check_sky, is_sky
from snowsure.errors import BadSky
from snowsure.kinds import is_name
from snowsure.madeskies import calm_sky, either_sky, noticed_sky, spared_sky, worst_sky
from snowsure.skies import compared, comparison_holds
from tests.samples import FAIR, STORM, TOWN, clear_sky

STREETS = ("h", "k", "m")
# A city over which all skies of this file are skies.
CITY = (
    ("a", "b"),
    tuple((name, "a", "b", 1, 1, 1, ()) for name in STREETS + ("hill",)),
    (("ann", "a"),),
    (3, 0, 0),
)
# It chooses ahead of each third tick which street it will be.
CHOICE = ("x", (("x", (("l", ()), ("r", ()))), ("l", (("x", ("h",)),)), ("r", (("x", ("k",)), ("l", ("k", "m"))))))


def counts(streets, noticed):
    return set(streets) <= set(noticed)


class Tellings:
    """What falls of skies, tick by tick: a number for each lot of what may fall and come of it."""

    def __init__(self):
        self.numbers = {}
        self.known = {}

    def number(self, pairs):
        return self.numbers.setdefault(frozenset(pairs), len(self.numbers))

    def of(self, sky, ticks, notice=(), spared=(), state=None):
        """Of a sky for so many ticks, told with a notice and spared streets."""
        key = (sky, ticks, notice, spared, state)
        if ticks == 0:
            return self.number(())
        if key not in self.known:
            arcs = dict(sky[1])[sky[0] if state is None else state]
            if notice:
                arcs = [arc for arc in arcs if counts(arc[1], notice[0])]
            self.known[key] = self.number(
                (frozenset(streets) - set(spared), self.of(sky, ticks - 1, notice[1:], spared, behind)) for behind, streets in arcs
            )
        return self.known[key]

    def of_either(self, one, other, ticks):
        pairs = []
        for sky in (one, other):
            for behind, streets in dict(sky[1])[sky[0]]:
                pairs.append((frozenset(streets), self.of(sky, ticks - 1, state=behind)))
        return self.number(pairs)


def is_lost(sky, notice):
    """Whether it can come to where no arc counts."""
    states = {sky[0]}
    for noticed in notice:
        behind = set()
        for state in states:
            arcs = [arc for arc in dict(sky[1])[state] if counts(arc[1], noticed)]
            if not arcs:
                return True
            behind |= {arc[0] for arc in arcs}
        states = behind
    return False


def drawn_sky(rng, names="xyzvw"):
    states = names[: rng.randint(1, len(names))]
    rows = []
    for state in states:
        arcs = [(rng.choice(states), tuple(rng.sample(STREETS, rng.choice((0, 0, 1, 1, 2, 3))))) for _ in range(rng.randint(1, 3))]
        rows.append((state, tuple(arcs)))
    return rng.choice(states), tuple(rows)


def drawn_notice(rng):
    return tuple(tuple(rng.sample(STREETS, rng.randint(1, 3))) for _ in range(rng.randint(0, 4)))


class MadeCase(unittest.TestCase):
    def made(self, make, *things):
        """What is made, a sky as [3]; and things stay as they are."""
        before = copy.deepcopy(things)
        sky = make(*things)
        self.assertEqual(things, before)
        self.assertEqual(sky, make(*things))
        check_sky(CITY, sky)
        names = [state for state, _ in sky[1]]
        self.assertTrue(all(is_name(name) for name in names))
        self.assertEqual(len(set(names)), len(names))
        return sky

    def no_worse(self, one, other):
        told = compared(one, other)
        self.assertEqual(told[0], "no worse", (one, other))
        self.assertTrue(comparison_holds(one, other, told))

    def same_falls(self, one, other, ticks=8):
        tellings = Tellings()
        self.assertEqual(tellings.of(one, ticks), tellings.of(other, ticks), (one, other))


class Noticed(MadeCase):
    def check(self, sky, notice):
        made = self.made(noticed_sky, sky, notice)
        tellings = Tellings()
        for ticks in range(len(notice) + 6):
            self.assertEqual(tellings.of(made, ticks), tellings.of(sky, ticks, notice), (sky, notice, ticks))
        self.no_worse(made, sky)
        return made

    def lost(self, sky, notice):
        before = copy.deepcopy((sky, notice))
        with self.assertRaises(BadSky) as caught:
            noticed_sky(sky, notice)
        self.assertEqual((sky, notice), before)
        self.assertLessEqual({"name", "why"}, set(vars(caught.exception)))

    def test_a_notice_of_no_tick(self):
        for sky in (STORM, FAIR, CHOICE, calm_sky(), clear_sky(5, 3, 2)):
            made = self.check(sky, ())
            self.same_falls(made, sky)
            self.no_worse(sky, made)

    def test_a_notice_of_one_tick(self):
        # It doesn't snow on the first tick, and is as fair as ever then.
        made = self.check(FAIR, ((),))
        self.same_falls(made, ("new", (("new", (("dry", ()),)),) + FAIR[1]))
        self.same_falls(self.check(FAIR, (("hill",),)), FAIR)
        self.same_falls(self.check(FAIR, (("hill", "h", "k"),)), FAIR)
        self.same_falls(self.check(FAIR, (("h", "k"),)), made)

    def test_a_notice_of_many_ticks(self):
        made = self.check(FAIR, ((), ("hill",), (), ()))
        rows = (("t0", (("t1", ()),)), ("t1", (("t2", ()), ("w", ("hill",)))), ("t2", (("t3", ()),)), ("w", (("t3", ()),)))
        self.same_falls(made, ("t0", rows + (("t3", (("dry", ()),)),) + FAIR[1]))
        self.check(FAIR, ((),) * 25)
        self.check(STORM, (("hill",),) * 20)

    def test_all_streets_of_an_arc_count(self):
        both = ("b", (("b", (("b", ("h", "k")), ("b", ()), ("b", ("k",)))),))
        for noticed, left in ((("h",), [()]), (("k",), [(), ("k",)]), (("h", "k"), [("h", "k"), (), ("k",)]), ((), [()])):
            made = self.check(both, (noticed,))
            self.assertEqual([streets for _, streets in dict(made[1])[made[0]]], left)

    def test_which_states_can_be_come_to(self):
        # Behind l it snows on h; only r is come to where that doesn't count.
        self.check(CHOICE, ((), ("h", "k", "m"), ("h",)))
        self.lost(CHOICE, ((), ("h",), ("h",)))
        self.lost(CHOICE, ((), ("k",)))
        self.check(CHOICE, ((), ("h", "k")))

    def test_none_counts_at_the_first_tick(self):
        self.lost(STORM, ((),))
        self.lost(STORM, (("h", "k", "m"),))
        self.lost(STORM, ((), ("hill",)))
        self.lost(worst_sky(CITY), (STREETS,))

    def test_none_counts_at_a_later_tick(self):
        self.lost(STORM, (("hill",), ("hill",), ("k",)))
        wet = ("wet", FAIR[1])
        must = ("dry", (("dry", (("wet", ()),)), ("wet", (("dry", ("hill",)),))))
        self.check(wet, ((), (), ()))
        self.lost(must, ((), ()))
        self.lost(must, ((), ("hill",), (), ()))
        self.check(must, ((), ("hill",), ()))

    def test_none_counts_only_where_it_can_not_come_to(self):
        shut = ("dry", (("dry", (("dry", ()), ("storm", ("h",)))), ("storm", (("storm", ("k",)),)), ("lost", (("lost", ("m",)),))))
        self.check(shut, ((), (), ()))
        self.check(shut, (("k",), ("k",), ("k", "m")))
        self.check(shut, (("h",), ("k",)))
        self.lost(shut, (("h",), ("h",)))
        # The last tick's arcs lead to where only what isn't noticed any more falls.
        self.check(shut, ((), ("h",)))

    def test_drawn(self):
        rng = random.Random(18)
        lost = 0
        for _ in range(500):
            sky, notice = drawn_sky(rng), drawn_notice(rng)
            if is_lost(sky, notice):
                lost += 1
                self.lost(sky, notice)
            else:
                self.check(sky, notice)
        self.assertTrue(50 < lost < 350, lost)

    def test_thirty_states_twelve_arcs(self):
        made = self.check(clear_sky(15, 12), ((),) * 5)
        self.assertEqual((len(made[1]), {len(arcs) for _, arcs in made[1]}), (30, {12}))
        ring = ("r0", tuple((f"r{k}", ((f"r{(k + 1) % 10}", STREETS),)) for k in range(10)))
        self.assertEqual(len(self.check(ring, (STREETS,) * 20)[1]), 30)
        # What can't be come to is no matter.
        many = ("r0", ring[1] + tuple((f"q{k}", ((f"q{k}", ()),)) for k in range(20)))
        self.check(many, (STREETS,) * 20)
        self.check(clear_sky(30, 2), ())


class Either(MadeCase):
    def check(self, one, other):
        made = self.made(either_sky, one, other)
        tellings = Tellings()
        for ticks in range(1, 9):
            self.assertEqual(tellings.of(made, ticks), tellings.of_either(one, other, ticks), (one, other, ticks))
        self.no_worse(one, made)
        self.no_worse(other, made)
        return made

    def test_two(self):
        made = self.check(STORM, calm_sky())
        self.same_falls(made, ("n", (("n", (("s", ("hill",)), ("c", ()))), ("s", (("s", ("hill",)),)), ("c", (("c", ()),)))))
        self.assertEqual(compared(made, calm_sky())[0], "worse")
        self.no_worse(made, STORM)
        self.check(FAIR, CHOICE)
        self.check(CHOICE, worst_sky(CITY))

    def test_from_the_first_tick_on(self):
        # Who begins to snow can't go on as the other one.
        one = ("a", (("a", (("a", ("h",)),)),))
        other = ("a", (("a", (("a", ("k",)),)),))
        made = self.check(one, other)
        self.assertEqual(compared(("a", (("a", (("b", ("h",)),)), ("b", (("b", ("k",)),)))), made)[0], "worse")

    def test_states_of_the_same_names(self):
        self.check(("s", (("s", (("t", ("h",)),)), ("t", (("s", ()),)))), ("s", (("s", (("t", ()),)), ("t", (("s", ("k",)),)))))
        for sky in (STORM, FAIR, CHOICE):
            made = self.check(sky, sky)
            self.same_falls(made, sky)
        self.check(FAIR, ("wet", FAIR[1]))
        # Also where what it is made of was made so.
        self.check(either_sky(FAIR, CHOICE), either_sky(CHOICE, FAIR))
        self.check(noticed_sky(FAIR, ((),)), either_sky(STORM, FAIR))

    def test_drawn(self):
        rng = random.Random(19)
        for _ in range(300):
            self.check(drawn_sky(rng), drawn_sky(rng, rng.choice(("xyz", "pqrst"))))

    def test_thirty_states_twelve_arcs(self):
        one = clear_sky(14, 6)
        other = ("r0", tuple((f"r{k}", ((f"r{(k + 1) % 15}", STREETS),) * 6) for k in range(15)))
        made = self.check(one, other)
        self.assertEqual((len(made[1]), len(dict(made[1])[made[0]])), (30, 12))
        self.check(clear_sky(14, 6), ("r0", other[1] + tuple((f"q{k}", ((f"q{k}", ()),)) for k in range(15))))


class Spared(MadeCase):
    def check(self, sky, spared):
        made = self.made(spared_sky, sky, spared)
        tellings = Tellings()
        for ticks in range(8):
            self.assertEqual(tellings.of(made, ticks), tellings.of(sky, ticks, (), spared), (sky, spared, ticks))
        for _, arcs in made[1]:
            for _, streets in arcs:
                self.assertEqual(set(streets) & set(spared), set())
        self.no_worse(made, sky)
        return made

    def test_one_street(self):
        self.same_falls(self.check(STORM, ("hill",)), calm_sky())
        self.same_falls(self.check(CHOICE, ("m",)), ("x", CHOICE[1][:2] + (("r", (("x", ("k",)), ("l", ("k",)))),)))

    def test_no_street(self):
        for sky in (STORM, FAIR, CHOICE):
            made = self.check(sky, ())
            self.same_falls(made, sky)
            self.no_worse(sky, made)

    def test_streets_that_fall_nowhere(self):
        for sky in (STORM, FAIR, calm_sky()):
            self.same_falls(self.check(sky, ("h", "k")), sky)
        self.same_falls(self.check(FAIR, ("hill", "h")), calm_sky())

    def test_all_streets(self):
        for sky in (STORM, FAIR, CHOICE, worst_sky(CITY)):
            made = self.check(sky, STREETS + ("hill",))
            self.same_falls(made, calm_sky())
            self.no_worse(made, calm_sky())

    def test_drawn(self):
        rng = random.Random(20)
        for _ in range(300):
            self.check(drawn_sky(rng), tuple(rng.sample(STREETS, rng.randint(0, 3))))

    def test_thirty_states_twelve_arcs(self):
        names = [f"n{k}" for k in range(30)]
        sky = ("n0", tuple((name, tuple((names[(7 * k + j) % 30], STREETS[: j % 4]) for j in range(12))) for k, name in enumerate(names)))
        made = self.check(sky, ("k",))
        self.assertTrue(is_sky(CITY, made))


class Extremes(MadeCase):
    def test_calm(self):
        sky = self.made(calm_sky)
        self.assertEqual([name for name, _ in sky[1]], ["calm"])
        self.assertEqual(sky, ("calm", (("calm", (("calm", ()),)),)))
        for other in (STORM, FAIR, CHOICE, worst_sky(CITY)):
            self.no_worse(sky, other)

    def test_worst(self):
        for city in (CITY, TOWN, (("a",), (), (("ann", "a"),), (1, 0, 0))):
            sky = worst_sky(city)
            self.assertTrue(is_sky(city, sky))
            self.assertEqual([name for name, _ in sky[1]], ["storm"])
            ((first, ((state, ((behind, streets),)),)),) = (sky,)
            self.assertEqual((first, state, behind, sorted(streets)), ("storm", "storm", "storm", sorted(row[0] for row in city[1])))
        sky = self.made(worst_sky, CITY)
        for other in (STORM, FAIR, CHOICE, calm_sky(), sky):
            self.no_worse(other, sky)

    def test_all_are_between(self):
        rng = random.Random(21)
        for _ in range(100):
            sky, other, notice = drawn_sky(rng), drawn_sky(rng), drawn_notice(rng)
            spared = spared_sky(sky, tuple(rng.sample(STREETS, 2)))
            skies = [calm_sky(), spared, sky, either_sky(sky, other), worst_sky(CITY)]
            for one, following in zip(skies, skies[1:]):
                self.no_worse(one, following)
            if not is_lost(sky, notice):
                self.no_worse(noticed_sky(sky, notice), sky)

    def test_of_another_call_nothing_is_left(self):
        self.assertEqual(noticed_sky(FAIR, ((),)), noticed_sky(FAIR, ((),)))
        self.assertEqual(either_sky(FAIR, STORM), either_sky(FAIR, STORM))


if __name__ == "__main__":
    unittest.main()
