"""[8] The most that can be promised."""

import copy
import unittest
from itertools import combinations

from snowsure.errors import TooMany
from snowsure.fewest import fewest_ploughs, greatest_falls, greatest_late, with_ploughs, with_rules
from snowsure.games import verdict
from snowsure.papers import is_rule, is_weather
from tests import slow
from tests.samples import FAIR, PAIR, TOWN, WORSE, small_worlds

STORM = ("s", (("s", (("s", ("s0",)),)),))
BOTH = ("s", (("s", (("s", ("s0", "s1")),)),))


def ways(limits, ploughs, rules, hours=((0, 1),)):
    """Two streets from a junction of their own each, in the sight of no plough but those that begin there."""
    s0 = ("s0", "a", "b", 1, 1, limits[0], hours)
    s1 = ("s1", "c", "d", 1, 1, limits[1], hours)
    return (("a", "b", "c", "d"), (s0, s1), tuple((f"p{number}", place) for number, place in enumerate(ploughs)), rules)


class Cities(unittest.TestCase):
    def test_with_ploughs(self):
        city = ways((1, 1), "abcd", (3, 2, 3))
        self.assertEqual(with_ploughs(city, (0,)), city[:2] + ((("p0", "a"),), (3, 2, 1)))
        self.assertEqual(with_ploughs(city, (1, 3)), city[:2] + ((("p1", "b"), ("p3", "d")), (3, 2, 2)))
        self.assertEqual(with_ploughs(city, (0, 1, 2)), city[:2] + (city[2][:3], (3, 2, 3)))
        self.assertEqual(with_ploughs(city, (0, 1, 2, 3)), city)
        self.assertEqual(with_ploughs(with_rules(city, 2, 0), (2,))[3], (3, 2, 0))

    def test_with_rules(self):
        city = ways((1, 1), "abcd", (3, 2, 3))
        self.assertEqual(with_rules(city, 5, 4), city[:3] + ((3, 5, 4),))
        self.assertEqual(with_rules(city, 0, 0), city[:3] + ((3, 0, 0),))
        self.assertEqual(with_rules(TOWN, 2, 0), WORSE)


class FewestPloughs(unittest.TestCase):
    def shown(self, city, sky):
        """The choice that is told, its papers being judged."""
        told = fewest_ploughs(city, sky)
        if told is None:
            self.assertEqual(verdict(city, sky)[0], "beaten")
            return None
        choice, rule, weathers = told
        self.assertTrue(is_rule(with_ploughs(city, choice), sky, rule))
        fewer = list(combinations(range(len(city[2])), len(choice) - 1)) if len(choice) > 1 else []
        self.assertEqual([other for other, _ in weathers], fewer)
        for other, weather in weathers:
            self.assertTrue(is_weather(with_ploughs(city, other), sky, weather))
        for other in combinations(range(len(city[2])), len(choice)):
            if other < choice:
                self.assertEqual(verdict(with_ploughs(city, other), sky)[0], "beaten")
        for kind in (told, choice, weathers, *weathers):
            self.assertIsInstance(kind, tuple)
        return choice

    def test_one(self):
        self.assertEqual(self.shown(TOWN, FAIR), (0,))
        self.assertEqual(self.shown(PAIR[:3] + ((3, 1, 0),), FAIR), (0,))
        self.assertEqual(fewest_ploughs(TOWN, FAIR)[2], ())

    def test_one_at_least(self):
        calm = ("s", (("s", (("s", ()),)),))
        self.assertEqual(self.shown(ways((1, 1), "ab", (3, 0, 2)), calm), (0,))

    def test_the_least_tuple_of_one(self):
        self.assertEqual(self.shown(ways((1, 1), "cab", (2, 0, 0)), STORM), (1,))

    def test_two(self):
        self.assertEqual(self.shown(ways((1, 1), "ac", (2, 0, 0)), BOTH), (0, 1))
        self.assertEqual(self.shown(ways((1, 1), "aacd", (2, 0, 0)), BOTH), (0, 2))
        self.assertEqual(self.shown(ways((1, 1), "dcba", (2, 0, 0)), BOTH), (0, 2))
        self.assertEqual(len(fewest_ploughs(ways((1, 1), "aacd", (2, 0, 0)), BOTH)[2]), 4)

    def test_three_and_fewer(self):
        self.assertEqual(self.shown(ways((1, 1), "aaa", (2, 0, 2)), STORM), (0, 1, 2))
        self.assertIsNone(self.shown(ways((1, 1), "aca", (2, 0, 1)), BOTH))
        self.assertEqual(self.shown(ways((1, 9), "abb", (2, 0, 1), ((0, 2),)), STORM), (0, 1))

    def test_none(self):
        self.assertIsNone(self.shown(WORSE, FAIR))
        self.assertIsNone(self.shown(ways((0, 1), "abcd", (1, 0, 0)), STORM))

    def test_falls_are_cut(self):
        # With both ploughs one breaks down, with one alone that one.
        self.assertEqual(self.shown(ways((1, 1), "ab", (2, 0, 1)), STORM), (0, 1))
        self.assertIsNone(self.shown(ways((1, 1), "ab", (2, 0, 2)), STORM))
        calm = ("s", (("s", (("s", ()),)),))
        choice, rule, _ = fewest_ploughs(ways((1, 1), "ab", (2, 0, 2)), calm)
        self.assertEqual(max(standing[4] for standing in rule), 1)
        self.assertEqual(choice, (0,))

    def test_small_worlds(self):
        for city, sky in small_worlds(60):
            if slow.reached(city, sky, 120) is not None:
                self.shown(city, sky)


class Greatest(unittest.TestCase):
    def shown(self, call, made, most, city, sky):
        """The greatest number that is told, its papers being judged."""
        told = call(city, sky)
        if told is None:
            self.assertEqual(verdict(made(0), sky)[0], "beaten")
            return None
        self.assertIsInstance(told, tuple)
        number, rule, weather = told
        self.assertTrue(0 <= number <= most)
        self.assertTrue(is_rule(made(number), sky, rule))
        if number == most:
            self.assertIsNone(weather)
        else:
            self.assertTrue(is_weather(made(number + 1), sky, weather))
        return number

    def late(self, city, sky):
        return self.shown(greatest_late, lambda late: with_rules(city, late, city[3][2]), 5, city, sky)

    def falls(self, city, sky):
        return self.shown(greatest_falls, lambda falls: with_rules(city, city[3][1], falls), len(city[2]), city, sky)

    def test_late(self):
        self.assertEqual(self.late(TOWN, FAIR), 1)
        self.assertEqual(self.late(WORSE, FAIR), 1)
        self.assertEqual(self.late(with_rules(TOWN, 5, 0), FAIR), 1)

    def test_5_ticks_late(self):
        hill = ("s0", "a", "b", 1, 1, 9, ((0, 1),))
        city = (("a", "b"), (hill,), (("ann", "a"),), (1, 0, 0))
        self.assertEqual(self.late(city, STORM), 5)
        self.assertIsNone(greatest_late(city, STORM)[2])
        less = (("a", "b"), (hill[:5] + (5,) + hill[6:],), (("ann", "a"),), (1, 3, 0))
        self.assertEqual(self.late(less, STORM), 4)

    def test_not_even_without_lateness(self):
        self.assertIsNone(self.late(with_rules(TOWN, 0, 1), FAIR))
        self.assertIsNone(greatest_late(ways((0, 1), "abcd", (1, 0, 0)), STORM))

    def test_breakdowns(self):
        self.assertEqual(self.falls(TOWN, FAIR), 0)
        self.assertEqual(self.falls(with_rules(TOWN, 1, 1), FAIR), 0)
        self.assertEqual(self.falls(ways((1, 1), "ab", (2, 0, 2)), STORM), 1)

    def test_breakdowns_of_all(self):
        calm = ("s", (("s", (("s", ()),)),))
        self.assertEqual(self.falls(ways((1, 1), "ab", (2, 0, 0)), calm), 2)
        self.assertEqual(self.falls(with_rules(TOWN, 1, 1)[:2] + ((("ann", "a"),), (3, 1, 0)), ("dry", (("dry", (("dry", ()),)),))), 1)

    def test_not_even_without_breakdowns(self):
        self.assertIsNone(self.falls(WORSE, FAIR))

    def test_all_else_is_the_same(self):
        city = ways((2, 1), "ab", (2, 1, 1))
        self.assertEqual(self.late(city, STORM), self.late(with_rules(city, 4, 1), STORM))
        self.assertEqual(self.falls(city, STORM), self.falls(with_rules(city, 1, 2), STORM))

    def test_small_worlds(self):
        for city, sky in small_worlds(40):
            if slow.reached(with_rules(city, 5, len(city[2])), sky, 200) is not None:
                self.late(city, sky)
                self.falls(city, sky)


class TooManyOfThoseNeeded(unittest.TestCase):
    def hilly(self, others, ploughs):
        """The town with more streets beside its hill, on which no snow falls."""
        rows = tuple((f"s{number}", "a", "b", 1, 1, 9, ()) for number in range(others))
        return (("a", "b", "c"), TOWN[1] + rows, ploughs, (3, 1, 0))

    def too_many(self, call, *arguments):
        with self.assertRaises(TooMany) as caught:
            call(*arguments)
        self.assertEqual(caught.exception.most, 1000)

    def test_lateness_from_0_on(self):
        ann = (("ann", "a"),)
        self.too_many(verdict, with_rules(self.hilly(7, ann), 3, 0), FAIR)
        self.assertEqual(greatest_late(self.hilly(7, ann), FAIR)[0], 1)
        self.assertEqual(verdict(with_rules(self.hilly(8, ann), 1, 0), FAIR)[0], "promised")
        self.too_many(verdict, with_rules(self.hilly(8, ann), 2, 0), FAIR)
        self.too_many(greatest_late, self.hilly(8, ann), FAIR)

    def test_breakdowns_from_0_on(self):
        three = (("ann", "a"), ("bob", "c"), ("cid", "c"))
        self.too_many(verdict, with_rules(self.hilly(4, three), 1, 2), FAIR)
        self.assertEqual(greatest_falls(self.hilly(4, three), FAIR)[0], 0)
        four = three + (("dan", "c"),)
        self.assertEqual(verdict(self.hilly(4, four), FAIR)[0], "promised")
        self.too_many(verdict, with_rules(self.hilly(4, four), 1, 1), FAIR)
        self.too_many(greatest_falls, self.hilly(4, four), FAIR)

    def far(self, ploughs):
        """The town with a far part, where a plough has more to do than can be gone through."""
        rows = tuple((f"s{number}", "c", "d", 9, 20, 9, ()) for number in range(15))
        return (("a", "b", "c", "d"), TOWN[1] + rows, ploughs, (3, 1, 0))

    def test_choices_by_their_number(self):
        ann, bob = ("ann", "a"), ("bob", "c")
        self.too_many(verdict, self.far((bob,)), FAIR)
        self.too_many(verdict, self.far((ann, bob)), FAIR)
        self.assertEqual(fewest_ploughs(self.far((ann, bob)), FAIR)[0], (0,))
        self.too_many(fewest_ploughs, self.far((bob, ann)), FAIR)

    def test_the_first_that_is_needed(self):
        for call in (fewest_ploughs, greatest_late, greatest_falls):
            self.too_many(call, self.far((("bob", "c"),)), FAIR)


class ArgumentsStay(unittest.TestCase):
    def test_they_stay(self):
        city, sky = copy.deepcopy((TOWN, FAIR))
        for call in (fewest_ploughs, greatest_late, greatest_falls):
            call(city, sky)
            self.assertEqual((city, sky), (TOWN, FAIR))


if __name__ == "__main__":
    unittest.main()
