"""[21] When will my street be cleared?"""

import copy
import unittest

from snowsure.games import verdict
from snowsure.promises import delay_from, is_delay, is_promise, promised, ticks_to_clear
from snowsure.world import beginning
from tests import slow
from tests.samples import ALWAYS, FAIR, KEPT, OTHER_THINGS, STORM, TOWN, kept_worlds

CALM = ("s", (("s", (("s", ()),)),))
FIRST = beginning(KEPT, STORM)
COMES, STAYS = (0, (True,), None), (0, (False,), None)

# A long street; ann works on it once a day of four ticks, passes on the next one, and so on.
LONG = (("a", "b"), (("long", "a", "b", 2, 3, 9, ()), ("side", "a", "b", 1, 1, 9, ())), (("ann", "a"),), (4, 1, 0))


def reckoned(city, sky, rule, street):
    """For each standing of a rule the ticks till the street is cleared: how long it can be put off, tried for all answers."""
    table = slow.under(city, sky, rule)
    waits = {}
    for standing, pairs in table.items():
        waits[standing] = {after for answer, after in pairs if not slow.clears(city, standing, rule[standing], answer, street)}
    numbers = {}
    left = set(table)
    for ticks in range(1, len(table) + 2):
        still = {standing for standing in left if waits[standing] & left}
        for standing in left - still:
            numbers[standing] = ticks
        left = still
    return numbers


def shows(city, sky, rule, street, thing):
    """Whether a dict from standings of the rule to integers is a promise, told a second time."""
    for standing, ticks in thing.items():
        if ticks < 1:
            return False
        for answer in slow.answers(city, sky, standing, rule[standing]):
            after = slow.behind(city, sky, standing, rule[standing], answer)
            if not slow.clears(city, standing, rule[standing], answer, street) and not thing.get(after, ticks) < ticks:
                return False
    return True


def puts_off(city, sky, rule, standing, street, delay):
    """Whether a pair of answers and a back is a delay, told a second time."""
    answers, back = delay
    way = [standing]
    for answer in answers:
        if answer not in slow.answers(city, sky, way[-1], rule[way[-1]]) or slow.clears(city, way[-1], rule[way[-1]], answer, street):
            return False
        way.append(slow.behind(city, sky, way[-1], rule[way[-1]], answer))
    return back is None or way[back] == way[-1]


def streets_of(city):
    return [street[0] for street in city[1]]


class PromiseCase(unittest.TestCase):
    def ticks(self, city, sky, rule, street):
        before = copy.deepcopy((city, sky, rule))
        told = ticks_to_clear(city, sky, rule, street)
        self.assertEqual((city, sky, rule), before)
        self.assertEqual(told, reckoned(city, sky, rule, street))
        self.assertEqual(told, ticks_to_clear(city, sky, rule, street))
        self.promise(True, city, sky, rule, street, told)
        return told

    def promise(self, wanted, city, sky, rule, street, thing):
        before = copy.deepcopy((rule, thing))
        self.assertIs(is_promise(city, sky, rule, street, thing), wanted, thing)
        self.assertEqual((rule, thing), before)

    def delay(self, wanted, city, sky, rule, standing, street, thing):
        before = copy.deepcopy((rule, thing))
        self.assertIs(is_delay(city, sky, rule, standing, street, thing), wanted, thing)
        self.assertEqual((rule, thing), before)


class Ticks(PromiseCase):
    def test_on_the_next_tick(self):
        self.assertEqual(self.ticks(KEPT, STORM, ALWAYS, "hill"), {standing: 1 for standing in ALWAYS})

    def test_never(self):
        idle = {(time, "s", (0,), (("at", "a"),), 0): (None,) for time in range(3)}
        self.assertEqual(self.ticks(KEPT, CALM, idle, "hill"), {})
        passing = whole(KEPT, CALM, lambda place: (("hill", False),))
        self.assertEqual(self.ticks(KEPT, CALM, passing, "hill"), {})
        # A street that nobody works on, and the one that somebody does.
        side = whole(LONG, CALM, lambda place: (("side", True),))
        self.assertEqual(self.ticks(LONG, CALM, side, "long"), {})
        self.assertEqual(set(self.ticks(LONG, CALM, side, "side")), set(side))

    def test_a_ride_takes_its_ticks_and_those_that_it_is_late(self):
        rule = whole(LONG, CALM, lambda place: (("long", True),))
        ticks = self.ticks(LONG, CALM, rule, "long")
        self.assertEqual(ticks[beginning(LONG, CALM)], 4)
        self.assertEqual({(standing[3][0][-1] if standing[3][0][0] == "on" else "at"): number for standing, number in ticks.items()},
                         {"at": 4, 2: 3, 1: 2, 0: 1})

    def test_from_some_only(self):
        # One way round by work, then only idle: it is cleared once, from the beginning's side.
        rule = whole(KEPT, CALM, lambda place: (("hill", True),) if place == "a" else (None,))
        ticks = self.ticks(KEPT, CALM, rule, "hill")
        self.assertEqual(ticks, {FIRST: 1})
        self.assertEqual(len(rule), 4)

    def test_it_counts_that_a_plough_comes_even_if_it_breaks_or_it_snows(self):
        city = KEPT[:3] + ((3, 0, 1),)
        rule = whole(city, CALM, lambda place: (("hill", True),))
        ticks = self.ticks(city, CALM, rule, "hill")
        self.assertEqual({number for standing, number in ticks.items() if standing[4] == 0}, {1})
        self.assertEqual([standing for standing in ticks if standing[4] == 1], [])
        # On a longer street a plough may break down on it.
        city = (("a", "b"), (("hill", "a", "b", 1, 2, 2, ()),), (("ann", "a"),), (3, 0, 1))
        rule = whole(city, CALM, lambda place: (("hill", True),))
        ticks = self.ticks(city, CALM, rule, "hill")
        self.assertEqual({standing[3][0][0] for standing in ticks}, {"on"})

    def test_drawn(self):
        some = never = longest = 0
        for city, sky, rule in kept_worlds(60):
            for street in streets_of(city):
                ticks = self.ticks(city, sky, rule, street)
                some += 0 < len(ticks)
                never += len(ticks) < len(rule)
                longest = max([longest, *ticks.values()])
                for standing in list(rule)[:6]:
                    self.assertEqual(promised(city, sky, rule, standing, street), ticks.get(standing))
        self.assertGreater(min(some, never), 20)
        self.assertGreater(longest, 9)

    def test_promised(self):
        self.assertEqual(promised(KEPT, STORM, ALWAYS, FIRST, "hill"), 1)
        rule = whole(LONG, CALM, lambda place: (("long", True),))
        self.assertEqual(promised(LONG, CALM, rule, beginning(LONG, CALM), "long"), 4)
        self.assertIsNone(promised(LONG, CALM, rule, beginning(LONG, CALM), "side"))
        rule = verdict(TOWN, FAIR)[1]
        for standing in rule:
            self.assertEqual(promised(TOWN, FAIR, rule, standing, "hill"), reckoned(TOWN, FAIR, rule, "hill").get(standing))

    def test_promised_whatever_else_a_rule_has(self):
        for city, sky, rule in kept_worlds(12):
            more = {"junk": None, **rule, (0, "x"): (), (7,): 3, (0, "x", (), (), 0): (None,)}
            for street in streets_of(city):
                ticks = reckoned(city, sky, rule, street)
                for standing in list(rule)[:5]:
                    self.assertEqual(promised(city, sky, more, standing, street), ticks.get(standing))
                    self.assertTrue(is_delay(city, sky, more, standing, street, delay_from(city, sky, more, standing, street)))
                self.promise(True, city, sky, more, street, ticks)
                self.promise(False, city, sky, more, street, {**ticks, (0, "x"): 1})
                self.promise(False, city, sky, more, street, {**ticks, "junk": 1})


def whole(city, sky, choose):
    """The rule with the chosen orders at each junction; one plough."""
    return slow.rule_by(city, sky, lambda standing: choose(standing[3][0][1]) if standing[3][0][0] == "at" else (None,))


class Promises(PromiseCase):
    RULE = whole(LONG, CALM, lambda place: (("long", True),))
    TICKS = ticks_to_clear(LONG, CALM, RULE, "long")

    def test_to_the_sign(self):
        self.promise(True, KEPT, STORM, ALWAYS, "hill", {FIRST: 1})
        self.promise(True, KEPT, STORM, ALWAYS, "hill", {})
        self.promise(True, KEPT, STORM, ALWAYS, "hill", {standing: 7 for standing in ALWAYS})
        self.promise(True, LONG, CALM, self.RULE, "long", self.TICKS)
        self.promise(True, LONG, CALM, self.RULE, "side", {})
        self.promise(False, LONG, CALM, self.RULE, "side", self.TICKS)

    def test_more_than_is_needed(self):
        self.promise(True, LONG, CALM, self.RULE, "long", {standing: 3 * number for standing, number in self.TICKS.items()})
        self.promise(True, LONG, CALM, self.RULE, "long", {standing: 100 + number for standing, number in self.TICKS.items()})

    def test_one_number_changed(self):
        for standing, number in self.TICKS.items():
            for other in (number - 1, number + 1, 1, 2, 3, 4, 5, 99):
                changed = {**self.TICKS, standing: other}
                self.promise(other >= 1 and shows(LONG, CALM, self.RULE, "long", changed), LONG, CALM, self.RULE, "long", changed)
            for other in (0, -1, True, False, None, "1", number + 0.5, (number,), [number]):
                self.promise(False, LONG, CALM, self.RULE, "long", {**self.TICKS, standing: other})
        for standing in ALWAYS:
            for other in (0, -1, True, False, None, "1", 1.0, 1.5):
                self.promise(False, KEPT, STORM, ALWAYS, "hill", {standing: other})

    def test_one_lacking(self):
        for standing, number in self.TICKS.items():
            lacking = {other: ticks for other, ticks in self.TICKS.items() if other != standing}
            # Only the beginning can't be come to again on time; what leads to it clears the street.
            self.promise(shows(LONG, CALM, self.RULE, "long", lacking), LONG, CALM, self.RULE, "long", lacking)
        many = {True: 0, False: 0}
        for city, sky, rule in kept_worlds(25):
            for street in streets_of(city):
                ticks = reckoned(city, sky, rule, street)
                for standing in list(ticks)[:8]:
                    for changed in (
                        {other: number for other, number in ticks.items() if other != standing}, {**ticks, standing: ticks[standing] + 1},
                        {**ticks, standing: ticks[standing] - 1}, {**ticks, standing: 1},
                    ):
                        wanted = shows(city, sky, rule, street, changed)
                        many[wanted] += 1
                        self.promise(wanted, city, sky, rule, street, changed)
        self.assertGreater(min(many.values()), 50)

    def test_a_key_that_the_rule_lacks(self):
        for key in (
            None, 0, "s", (), (0,), FIRST[:4], (0, "s", (2,), (("at", "b"),), 0), (1, "s", (0,), (("at", "a"),), 0), (1, "t") + FIRST[2:],
            (7,) + FIRST[1:], FIRST + (0,),
        ):
            self.promise(False, KEPT, STORM, ALWAYS, "hill", {key: 1})
            self.promise(False, KEPT, STORM, ALWAYS, "hill", {**{standing: 1 for standing in ALWAYS}, key: 1})
        for standing in ALWAYS:
            lacking = {other: orders for other, orders in ALWAYS.items() if other != standing}
            self.promise(False, KEPT, STORM, lacking, "hill", {standing: 1})

    def test_a_standing_from_which_it_is_not_cleared(self):
        for city, sky, rule in kept_worlds(25):
            for street in streets_of(city):
                ticks = reckoned(city, sky, rule, street)
                for standing in [standing for standing in rule if standing not in ticks][:5]:
                    for number in (1, 2, 1000):
                        self.promise(False, city, sky, rule, street, {**ticks, standing: number})
                        self.promise(False, city, sky, rule, street, {other: number for other in rule})

    def test_other_things(self):
        for thing in OTHER_THINGS:
            if thing != {}:
                self.assertIs(is_promise(KEPT, STORM, ALWAYS, "hill", thing), False)
        for thing in ((FIRST, 1), [(FIRST, 1)], ((FIRST, 1),), {FIRST}, FIRST):
            self.promise(False, KEPT, STORM, ALWAYS, "hill", thing)


class Delays(PromiseCase):
    RULE = whole(LONG, CALM, lambda place: (("long", True),))
    START = beginning(LONG, CALM)

    def from_standing(self, city, sky, rule, standing, street):
        before = copy.deepcopy((city, sky, rule, standing))
        told = delay_from(city, sky, rule, standing, street)
        self.assertEqual((city, sky, rule, standing), before)
        self.assertEqual(told, delay_from(city, sky, rule, standing, street))
        answers, back = told
        self.assertIsInstance(told, tuple)
        self.assertIsInstance(answers, tuple)
        self.delay(True, city, sky, rule, standing, street, told)
        self.assertTrue(puts_off(city, sky, rule, standing, street, told))
        ticks = promised(city, sky, rule, standing, street)
        if ticks is None:
            self.assertIsInstance(back, int)
            self.assertTrue(0 <= back < len(answers))
        else:
            self.assertEqual((len(answers), back), (ticks - 1, None))
        return told

    def test_with_a_promise(self):
        self.assertEqual(self.from_standing(KEPT, STORM, ALWAYS, FIRST, "hill"), ((), None))
        self.assertEqual(self.from_standing(LONG, CALM, self.RULE, self.START, "long"), ((STAYS,) * 3, None))

    def test_without_a_promise(self):
        answers, back = self.from_standing(LONG, CALM, self.RULE, self.START, "side")
        self.assertGreater(len(answers), 2)
        once = whole(KEPT, CALM, lambda place: (("hill", True),) if place == "a" else (None,))
        behind = (1, "s", (0,), (("at", "b"),), 0)
        self.assertEqual(self.from_standing(KEPT, CALM, once, behind, "hill"), ((STAYS,) * 3, 0))

    def test_drawn(self):
        kinds = {True: 0, False: 0}
        backs = set()
        for city, sky, rule in kept_worlds(60):
            for street in streets_of(city):
                for standing in list(rule)[::max(1, len(rule) // 6)]:
                    _, back = self.from_standing(city, sky, rule, standing, street)
                    kinds[back is None] += 1
                    backs.add(back)
        self.assertGreater(min(kinds.values()), 50)
        self.assertGreater(len(backs), 4)

    def test_no_answers(self):
        self.delay(True, KEPT, STORM, ALWAYS, FIRST, "hill", ((), None))
        for back in (0, 1, -1, True, False, "", ()):
            self.delay(False, KEPT, STORM, ALWAYS, FIRST, "hill", ((), back))

    def test_answers_on_which_it_is_cleared(self):
        self.delay(False, KEPT, STORM, ALWAYS, FIRST, "hill", ((COMES,), None))
        self.delay(True, LONG, CALM, self.RULE, self.START, "long", ((STAYS, STAYS, STAYS), None))
        self.delay(False, LONG, CALM, self.RULE, self.START, "long", ((STAYS, STAYS, STAYS, COMES), None))
        self.delay(False, LONG, CALM, self.RULE, self.START, "long", ((STAYS, STAYS, COMES), None))
        self.delay(False, LONG, CALM, self.RULE, self.START, "long", ((STAYS, STAYS, COMES, STAYS), None))
        # Another street isn't cleared by it.
        self.delay(True, LONG, CALM, self.RULE, self.START, "side", ((STAYS, STAYS, COMES, STAYS), None))

    def test_passing_clears_nothing(self):
        rule = whole(KEPT, CALM, lambda place: (("hill", False),))
        self.delay(True, KEPT, CALM, rule, FIRST, "hill", ((COMES,) * 6, 0))
        self.delay(True, KEPT, CALM, rule, FIRST, "hill", ((COMES,) * 6, None))

    def test_answers_that_can_not_be(self):
        for answer in (
            None, (), 0, "0 n -", (0, (False,)), [0, (False,), None], (1, (False,), None), (-1, (False,), None), (True, (False,), None),
            (False, (False,), None), (0, (0,), None), (0, (), None), (0, (False, False), None), (0, [False], None), (0, (False,), 0), (0, False, None),
            (0, (True,), None), (0, (False,), False), (0, (None,), None),
        ):
            self.delay(False, LONG, CALM, self.RULE, self.START, "long", ((answer,), None))
            self.delay(False, LONG, CALM, self.RULE, self.START, "long", ((STAYS, answer), None))
            self.delay(False, LONG, CALM, self.RULE, self.START, "long", ((answer, STAYS), None))
        self.delay(False, LONG, CALM, self.RULE, self.START, "long", ((STAYS,) * 4, None))

    def test_backs(self):
        rule = {(time, "s", (0,), (("at", "a"),), 0): (None,) for time in range(3)}
        way = (STAYS,) * 7
        for back in (None, 1, 4):
            self.delay(True, KEPT, CALM, rule, FIRST, "hill", (way, back))
        for back in (0, 2, 3, 5, 6, 7, 8, 10, -1, -3, -6, True, False, 1.0, "1", (1,), [1]):
            self.delay(False, KEPT, CALM, rule, FIRST, "hill", (way, back))
        for back in (0, 3):
            self.delay(True, KEPT, CALM, rule, FIRST, "hill", ((STAYS,) * 6, back))
        for back in (6, True, False, 1, 2, 4, 5):
            self.delay(False, KEPT, CALM, rule, FIRST, "hill", ((STAYS,) * 6, back))

    def test_a_standing_without_orders(self):
        lacking = {standing: orders for standing, orders in self.RULE.items() if standing[0] != 1}
        self.delay(True, LONG, CALM, lacking, self.START, "long", ((STAYS,), None))
        self.delay(False, LONG, CALM, lacking, self.START, "long", ((STAYS, STAYS), None))

    def test_other_things(self):
        for thing in OTHER_THINGS + (((), None, None), ((),), [(), None], ([], None), (None, ()), ({}, None), (None, None), ("", None), (0, None)):
            self.assertIs(is_delay(KEPT, STORM, ALWAYS, FIRST, "hill", thing), False, thing)


if __name__ == "__main__":
    unittest.main()
