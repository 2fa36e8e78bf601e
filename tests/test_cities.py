"""[3] Cities and skies: each limit just within and just beyond, and other things altogether."""

import copy
import unittest

from snowsure.cities import arcs_of, check_city, check_sky, is_city, is_sky
from snowsure.errors import BadCity, BadSky, SnowError
from tests.samples import FAIR, HILL, OTHER_THINGS, TOWN

JUNCTIONS = ("a", "b")


def city(junctions=JUNCTIONS, streets=(HILL,), ploughs=(("ann", "a"),), rules=(3, 1, 0)):
    return (junctions, streets, ploughs, rules)


def street(name="hill", one="a", other="b", passing=1, work=1, limit=1, hours=((0, 1),)):
    return (name, one, other, passing, work, limit, hours)


def of_street(**more):
    return city(streets=(street(**more),))


def of_hours(hours, day=3):
    return city(streets=(street(hours=hours),), rules=(day, 1, 0))


def sky(arcs=(("dry", ()),), first="dry"):
    return (first, (("dry", arcs),))


class CityCase(unittest.TestCase):
    def taken(self, thing):
        self.assertIs(is_city(thing), True, thing)
        self.assertIsNone(check_city(thing))

    def refused(self, thing):
        self.assertIs(is_city(thing), False, thing)
        with self.assertRaises(BadCity) as caught:
            check_city(thing)
        self.assertTrue(hasattr(caught.exception, "name") and hasattr(caught.exception, "why"))

    def taken_from_to(self, made, least, greatest):
        """Whether what a number makes is a city from least to greatest alone."""
        self.taken(made(least))
        self.taken(made(greatest))
        self.refused(made(least - 1))
        self.refused(made(greatest + 1))


class SkyCase(unittest.TestCase):
    def taken(self, thing, over=TOWN):
        self.assertIs(is_sky(over, thing), True, thing)
        self.assertIsNone(check_sky(over, thing))

    def refused(self, thing, over=TOWN):
        self.assertIs(is_sky(over, thing), False, thing)
        with self.assertRaises(BadSky) as caught:
            check_sky(over, thing)
        self.assertTrue(hasattr(caught.exception, "name") and hasattr(caught.exception, "why"))


GOOD_NAMES = ("a", "z", "a0", "z9", "hill", "abcdefgh", "a1234567", "oneone")
BAD_NAMES = (
    "", "abcdefghi", "1", "9a", "A", "aB", "hilL", "a b", "a_b", "a-b", " a", "a ", "a\n", "\u00e9", "a\u00b2", "a\u0661",
    "\u0430", "{", "`", "a/", "a:", b"a", ("a",), ["a"], None, 1, True, {"a": 1},
)


class Names(CityCase):
    def test_names_of_junctions(self):
        for name in GOOD_NAMES:
            self.taken((("k", name), (), (("ann", name),), (1, 0, 0)))
        for name in BAD_NAMES:
            self.refused((("k", name), (), (("ann", "k"),), (1, 0, 0)))

    def test_names_of_streets(self):
        for name in GOOD_NAMES:
            self.taken(of_street(name=name))
        for name in BAD_NAMES:
            self.refused(of_street(name=name))

    def test_names_of_ploughs(self):
        for name in ("a", "z9", "abcdefgh"):
            self.taken(city(ploughs=((name, "a"),)))
        for name in BAD_NAMES:
            self.refused(city(ploughs=((name, "a"),)))

    def test_names_twice(self):
        self.refused(city(junctions=("a", "b", "a")))
        self.refused(city(streets=(street(), street())))
        self.refused(city(streets=(street(), street(name="road"), street(one="b", other="a"))))
        self.refused(city(ploughs=(("ann", "a"), ("ann", "b"))))
        self.refused(city(ploughs=(("hill", "a"),)))
        self.refused(city(ploughs=(("ann", "a"), ("hill", "b"))))

    def test_a_junction_may_have_the_name_of_a_street_or_a_plough(self):
        self.taken(of_street(name="a"))
        self.taken(city(ploughs=(("a", "a"), ("b", "a"))))


class Counts(CityCase):
    def test_junctions(self):
        def made(many):
            return (tuple(f"j{number}" for number in range(many)), (), (("ann", "j0"),), (1, 0, 0))

        self.taken_from_to(made, 1, 12)

    def test_streets(self):
        def made(many):
            return city(streets=tuple(street(name=f"s{number}") for number in range(many)))

        for many in (0, 1, 19, 20):
            self.taken(made(many))
        self.refused(made(21))

    def test_ploughs(self):
        def made(many):
            return city(ploughs=tuple((f"p{number}", "a") for number in range(many)))

        self.taken_from_to(made, 1, 4)

    def test_spans(self):
        def made(many):
            return of_hours(tuple((2 * number, 2 * number + 1) for number in range(many)), 20)

        for many in (0, 1, 5, 6):
            self.taken(made(many))
        self.refused(made(7))


class Numbers(CityCase):
    def test_pass(self):
        self.taken_from_to(lambda ticks: of_street(passing=ticks, work=20), 1, 9)

    def test_work(self):
        self.taken_from_to(lambda ticks: of_street(work=ticks), 1, 20)
        self.taken_from_to(lambda ticks: of_street(passing=4, work=ticks), 4, 20)
        self.taken_from_to(lambda ticks: of_street(passing=9, work=ticks), 9, 20)

    def test_limit(self):
        self.taken_from_to(lambda units: of_street(limit=units), 0, 9)

    def test_day(self):
        self.taken_from_to(lambda ticks: city(rules=(ticks, 1, 0)), 1, 60)
        self.taken_from_to(lambda ticks: city(streets=(), rules=(ticks, 1, 0)), 1, 60)

    def test_late(self):
        self.taken_from_to(lambda ticks: city(rules=(3, ticks, 0)), 0, 5)

    def test_falls(self):
        for many in (1, 2, 3, 4):
            ploughs = tuple((f"p{number}", "a") for number in range(many))
            self.taken_from_to(lambda falls, ploughs=ploughs: city(ploughs=ploughs, rules=(3, 0, falls)), 0, many)

    def test_no_bool_no_float_no_text(self):
        for thing in (True, False, 1.0, "1", None, (1,), [1], {}, b"1"):
            self.refused(of_street(passing=thing))
            self.refused(of_street(work=thing))
            self.refused(of_street(limit=thing))
            self.refused(city(rules=(thing, 1, 0)))
            self.refused(city(rules=(3, thing, 0)))
            self.refused(city(rules=(3, 1, thing)))
            self.refused(of_hours(((thing, 2),)))
            self.refused(of_hours(((0, thing),)))


class Hours(CityCase):
    def test_within_the_day(self):
        self.taken(of_hours(((0, 3),)))
        self.taken(of_hours(((2, 3),)))
        self.taken(of_hours(((0, 60),), 60))
        self.refused(of_hours(((0, 4),)))
        self.refused(of_hours(((-1, 2),)))
        self.refused(of_hours(((3, 4),)))
        self.refused(of_hours(((0, 61),), 60))

    def test_begin_below_end(self):
        self.refused(of_hours(((1, 1),)))
        self.refused(of_hours(((2, 1),)))
        self.refused(of_hours(((3, 3),)))
        self.taken(of_hours(((1, 2),)))

    def test_they_neither_overlap_nor_touch(self):
        self.taken(of_hours(((0, 2), (3, 4), (5, 6)), 6))
        self.refused(of_hours(((0, 2), (2, 4)), 6))
        self.refused(of_hours(((0, 3), (2, 4)), 6))
        self.refused(of_hours(((0, 1), (2, 4), (4, 6)), 6))
        self.refused(of_hours(((3, 4), (0, 1)), 6))
        self.refused(of_hours(((0, 1), (0, 1)), 6))


class Junctions(CityCase):
    def test_streets_between_unlike_known_ones(self):
        self.taken(of_street(one="b", other="a"))
        for one, other in (("a", "a"), ("b", "b"), ("a", "c"), ("c", "b"), ("hill", "b"), ("a", "ab"), ("", "b")):
            self.refused(of_street(one=one, other=other))

    def test_ploughs_at_known_ones(self):
        self.taken(city(ploughs=(("ann", "b"),)))
        for junction in ("c", "hill", "", "ab", None, 0, ("a",), ["a"]):
            self.refused(city(ploughs=(("ann", junction),)))


class Forms(CityCase):
    def test_the_sample(self):
        self.taken(TOWN)
        self.taken(city(streets=()))

    def test_other_things_everywhere(self):
        for thing in OTHER_THINGS:
            self.refused(thing)
            self.refused(city(junctions=thing))
            self.refused(city(ploughs=thing))
            self.refused(city(rules=thing))
            self.refused(city(streets=(thing,)))
            self.refused(city(streets=(street(), thing)))
            self.refused(city(ploughs=(thing,)))
            self.refused(city(ploughs=(("ann", "a"), thing)))
            self.refused(of_hours((thing,)))
            self.refused(of_street(other=thing))
            if thing != "a":
                self.refused(of_street(one=thing))
            if thing != "hill":
                self.refused(city(junctions=("a", "b", thing)))
            if thing != ():
                self.refused(city(streets=thing))
                self.refused(of_hours(thing))

    def test_lists_in_the_place_of_tuples(self):
        self.refused(list(TOWN))
        self.refused(city(junctions=["a", "b"]))
        self.refused(city(streets=[HILL]))
        self.refused(city(streets=[]))
        self.refused(city(streets=(list(HILL),)))
        self.refused(city(ploughs=[("ann", "a")]))
        self.refused(city(ploughs=(["ann", "a"],)))
        self.refused(city(rules=[3, 1, 0]))
        self.refused(of_hours([(0, 1)]))
        self.refused(of_hours([]))
        self.refused(of_hours(([0, 1],)))
        self.refused(city(junctions="ab"))

    def test_too_short_or_too_long(self):
        for thing in (TOWN, HILL, ("ann", "a"), (3, 1, 0), (0, 1)):
            for other in (thing[:-1], thing + (0,), thing + ("a",)):
                if thing is TOWN:
                    self.refused(other)
                elif thing is HILL:
                    self.refused(city(streets=(other,)))
                elif thing == ("ann", "a"):
                    self.refused(city(ploughs=(other,)))
                elif thing == (3, 1, 0):
                    self.refused(city(rules=other))
                else:
                    self.refused(of_hours((other,)))


class Skies(SkyCase):
    def test_the_sample(self):
        self.taken(FAIR)
        self.taken(("wet", FAIR[1]))
        self.taken(sky())
        self.taken(sky(), city(streets=()))

    def test_first_state(self):
        for first in ("fog", "", "hill", "dr", "dryy", None, 0, True, ("dry",), ["dry"], {}):
            self.refused((first, FAIR[1]))

    def test_names_of_states(self):
        for name in GOOD_NAMES:
            self.taken((name, ((name, ((name, ()),)),)))
        for name in BAD_NAMES:
            self.refused((name, ((name, ((name, ()),)),)))
            self.refused(("dry", (("dry", (("dry", ()),)), (name, (("dry", ()),)))))
        self.refused(("dry", (("dry", (("dry", ()),)), ("dry", (("dry", ()),)))))
        self.taken(("hill", (("hill", (("hill", ("hill",)),)),)))

    def test_how_many_states(self):
        def made(many):
            return ("s0", tuple((f"s{number}", (("s0", ()),)) for number in range(many)))

        for many in (1, 2, 29, 30):
            self.taken(made(many))
        self.refused(made(31))
        self.refused(("s0", ()))

    def test_how_many_arcs(self):
        for many in (1, 2, 11, 12):
            self.taken(sky((("dry", ()),) * many))
        self.refused(sky(()))
        self.refused(sky((("dry", ()),) * 13))

    def test_arcs_lead_to_states(self):
        for state in ("fog", "", "hill", None, 0, True, ("dry",), ["dry"], {}):
            self.refused(sky(((state, ()),)))
            self.refused(sky((("dry", ()), (state, ()))))

    def test_streets_of_arcs(self):
        both = city(streets=(street(), street(name="road")))
        self.taken(sky((("dry", ("road", "hill")),)), both)
        self.taken(sky((("dry", ("hill", "road")),)), both)
        self.refused(sky((("dry", ("hill", "hill")),)), both)
        self.refused(sky((("dry", ("hill", "road", "hill")),)), both)
        for name in ("road", "", "a", "ann", "dry", None, 0, True, ("hill",), ["hill"], {}):
            self.refused(sky((("dry", (name,)),)))
            self.refused(sky((("dry", ("hill", name)),)))
        self.refused(sky((("dry", ("hill",)),)), city(streets=()))

    def test_other_things_everywhere(self):
        for thing in OTHER_THINGS:
            self.refused(thing)
            self.refused(("dry", thing))
            self.refused(("dry", (thing,)))
            self.refused(("dry", FAIR[1] + (thing,)))
            self.refused(sky(thing))
            self.refused(sky((thing,)))
            if thing != ():
                self.refused(sky((("dry", thing),)))

    def test_lists_in_the_place_of_tuples(self):
        self.refused(list(FAIR))
        self.refused(("dry", list(FAIR[1])))
        self.refused(("dry", (["dry", (("dry", ()),)],)))
        self.refused(sky([("dry", ())]))
        self.refused(sky((["dry", ()],)))
        self.refused(sky((("dry", []),)))
        self.refused(sky((("dry", ["hill"]),)))
        self.refused(sky((("dry", "hill"),)))

    def test_too_short_or_too_long(self):
        self.refused(FAIR[:1])
        self.refused(FAIR + (0,))
        self.refused(("dry", (("dry",),)))
        self.refused(("dry", (("dry", (("dry", ()),), 0),)))
        self.refused(sky((("dry",),)))
        self.refused(sky((("dry", (), 0),)))


class Arcs(unittest.TestCase):
    def test_arcs_of(self):
        self.assertEqual(arcs_of(FAIR, "dry"), (("dry", ()), ("wet", ("hill",))))
        self.assertEqual(arcs_of(FAIR, "wet"), (("dry", ()),))


class Errors(unittest.TestCase):
    def test_they_are_snow_errors(self):
        for call in (lambda: check_city(None), lambda: check_sky(TOWN, None)):
            with self.assertRaises(SnowError):
                call()

    def test_arguments_stay(self):
        for thing in (TOWN, [["a"], [], [], []], {"a": [1]}, (["a"], [HILL], [], [1])):
            before = copy.deepcopy(thing)
            is_city(thing)
            is_sky(TOWN, thing)
            self.assertEqual(thing, before)


if __name__ == "__main__":
    unittest.main()
