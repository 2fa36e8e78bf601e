"""[23] Cards."""

import copy
import itertools
import random
import unittest

from snowsure.cards import all_facts, are_pairs, card_of, fewest_facts, is_card, seen_with
from snowsure.games import verdict
from snowsure.world import beginning
from tests import slow
from tests.samples import ALWAYS, FAIR, KEPT, OTHER_THINGS, PAIR, STORM, TOWN, kept_worlds

# The time alone tells what is to be done.
TIMED = (("a", "b"), (("hill", "a", "b", 1, 1, 9, ()),), (("ann", "a"),), (4, 0, 0))
CALM = ("s", (("s", (("s", ()),)),))
CLOCK = {
    (0, "s", (0,), (("at", "a"),), 0): (("hill", True),), (1, "s", (0,), (("at", "b"),), 0): (None,),
    (2, "s", (0,), (("at", "b"),), 0): (("hill", False),), (3, "s", (0,), (("at", "a"),), 0): (None,),
}


def facts_of(city, plough):
    numbers = [other for other in range(len(city[2])) if other != plough]
    return (("fallen",), *[("plough", number) for number in numbers], *[("snow", number) for number in range(len(city[1]))], ("state",), ("time",))


def sight(standing, plough, facts):
    """What is seen, told a second time."""
    parts = {"time": standing[0], "state": standing[1], "fallen": standing[4]}
    told = [standing[3][plough][1]]
    for word, *number in facts:
        told.append({"snow": standing[2], "plough": standing[3]}[word][number[0]] if number else parts[word])
    return tuple(told)


def due_of(city, sky, rule, plough):
    return {standing: rule[standing][plough] for standing in slow.under(city, sky, rule) if standing[3][plough][0] == "at"}


def table_of(due, plough, facts):
    """The table of a card with these facts, None if there is none."""
    table = {}
    for standing, order in due.items():
        if table.setdefault(sight(standing, plough, facts), order) != order:
            return None
    return table


def are_alike(due, plough, facts, one, other):
    return one in due and other in due and sight(one, plough, facts) == sight(other, plough, facts) and due[one] != due[other]


class CardCase(unittest.TestCase):
    def card(self, wanted, city, sky, rule, plough, thing):
        before = copy.deepcopy(rule), repr(thing)
        self.assertIs(is_card(city, sky, rule, plough, thing), wanted, thing)
        self.assertEqual((rule, repr(thing)), before)

    def pairs(self, wanted, city, sky, rule, plough, many, thing):
        before = copy.deepcopy(rule), repr(thing)
        self.assertIs(are_pairs(city, sky, rule, plough, many, thing), wanted, thing)
        self.assertEqual((rule, repr(thing)), before)


class Facts(unittest.TestCase):
    def test_all(self):
        self.assertEqual(all_facts(KEPT, 0), (("fallen",), ("snow", 0), ("state",), ("time",)))
        self.assertEqual(all_facts(PAIR, 0), (("fallen",), ("plough", 1), ("snow", 0), ("state",), ("time",)))
        self.assertEqual(all_facts(PAIR, 1), (("fallen",), ("plough", 0), ("snow", 0), ("state",), ("time",)))
        self.assertEqual(all_facts((("a",), (), (("ann", "a"),), (1, 0, 0)), 0), (("fallen",), ("state",), ("time",)))

    def test_ascending(self):
        city = (("a", "b"), tuple((f"s{k}", "a", "b", 1, 1, 1, ()) for k in range(5)), tuple((f"p{k}", "a") for k in range(4)), (1, 0, 0))
        for plough in range(4):
            told = all_facts(city, plough)
            self.assertIsInstance(told, tuple)
            self.assertEqual(told, facts_of(city, plough))
            self.assertEqual(list(told), sorted(set(told)))
            self.assertEqual(len(told), 11)
        many = (city[0], tuple((f"s{k}", "a", "b", 1, 1, 1, ()) for k in range(12)), city[2][:1], city[3])
        self.assertEqual(all_facts(many, 0)[1:13], tuple(("snow", k) for k in range(12)))

    def test_seen(self):
        standing = (2, "wet", (1, 0), (("at", "b"), ("on", "hill", "a", True, -1), ("down",)), 1)
        self.assertEqual(seen_with(standing, 0, ()), ("b",))
        self.assertEqual(seen_with(standing, 0, (("time",), ("snow", 0))), ("b", 2, 1))
        self.assertEqual(seen_with(standing, 0, (("snow", 1), ("snow", 0), ("snow", 1))), ("b", 0, 1, 0))
        self.assertEqual(seen_with(standing, 0, (("plough", 1), ("plough", 2))), ("b", ("on", "hill", "a", True, -1), ("down",)))
        self.assertEqual(seen_with(standing, 0, (("fallen",), ("state",))), ("b", 1, "wet"))
        self.assertEqual(seen_with((0, "s", (0,), (("down",), ("at", "c")), 1), 1, (("plough", 0),)), ("c", ("down",)))
        for city, sky, rule in kept_worlds(20):
            for plough in range(len(city[2])):
                for standing in due_of(city, sky, rule, plough):
                    facts = all_facts(city, plough)
                    self.assertEqual(seen_with(standing, plough, facts), sight(standing, plough, facts))


class Cards(CardCase):
    GOOD = ((("time",),), {("a", 0): ("hill", True), ("b", 1): None, ("b", 2): ("hill", False), ("a", 3): None})

    def test_to_the_sign(self):
        self.card(True, TIMED, CALM, CLOCK, 0, self.GOOD)
        self.card(True, KEPT, STORM, ALWAYS, 0, ((), {("a",): ("hill", True), ("b",): ("hill", True)}))
        self.card(False, TIMED, CALM, CLOCK, 0, ((), {("a",): ("hill", True), ("b",): None}))

    def test_a_line_changed(self):
        facts, table = self.GOOD
        for sight_of in table:
            for order in (None, ("hill", True), ("hill", False), ("moon", True), (), "hill", ("hill",), ("hill", 1), ("hill", 0), ["hill", True], True, 0):
                self.card(type(order) is type(table[sight_of]) and order == table[sight_of] and repr(order) == repr(table[sight_of]),
                          TIMED, CALM, CLOCK, 0, (facts, {**table, sight_of: order}))

    def test_a_line_lacking(self):
        facts, table = self.GOOD
        for sight_of in table:
            self.card(False, TIMED, CALM, CLOCK, 0, (facts, {other: table[other] for other in table if other != sight_of}))
        self.card(False, TIMED, CALM, CLOCK, 0, (facts, {}))

    def test_lines_too_many(self):
        facts, table = self.GOOD
        for sight_of, order in ((("c", 0), None), (("b", 0), ("hill", True)), (("a", 99), ("moon", False)), (("a",), None)):
            self.card(True, TIMED, CALM, CLOCK, 0, (facts, {**table, sight_of: order}))

    def test_facts(self):
        facts, table = self.GOOD
        twice = {(*sight_of, sight_of[1]): order for sight_of, order in table.items()}
        self.card(True, TIMED, CALM, CLOCK, 0, ((("time",), ("time",)), twice))
        self.card(False, TIMED, CALM, CLOCK, 0, ((("time",), ("time",)), table))
        ahead = {(sight_of[0], "s", sight_of[1]): order for sight_of, order in table.items()}
        self.card(True, TIMED, CALM, CLOCK, 0, ((("state",), ("time",)), ahead))
        self.card(False, TIMED, CALM, CLOCK, 0, ((("time",), ("state",)), ahead))
        for fact in (
            ("snow",), ("snow", 1), ("snow", -1), ("snow", True), ("snow", False), ("snow", None), ("snow", "hill"), ("plough", 0), ("plough", 1), ("plough",),
            ("time", 0), ("day",), (), "time", None, 0, ["time"], ("time", "state"), ("snow", 0, 0), (None,), (0,), {}, ("snow", 0.0),
        ):
            for told in (lambda sight_of: (*sight_of, 0), lambda sight_of: (*sight_of, "s"), lambda sight_of: sight_of):
                self.card(False, TIMED, CALM, CLOCK, 0, ((("time",), fact), {told(sight_of): order for sight_of, order in table.items()}))
        self.card(True, TIMED, CALM, CLOCK, 0, ((("time",), ("snow", 0)), {(*sight_of, 0): order for sight_of, order in table.items()}))

    def test_only_what_the_rule_comes_to_with_the_plough_at_a_junction(self):
        far = (("a", "b"), (("hill", "a", "b", 2, 3, 9, ()),), (("ann", "a"), ("bob", "b")), (1, 0, 1))
        rule = slow.rule_by(far, CALM, lambda standing: slow.orders(far, standing)[-1])
        for plough in range(2):
            due = due_of(far, CALM, rule, plough)
            self.assertLess(len(due), len(rule))
            table = table_of(due, plough, ())
            self.assertEqual(set(table), {("a",), ("b",)})
            self.card(True, far, CALM, rule, plough, ((), table))
            more = {**rule, (0, "s", (0,), (("at", "a"), ("at", "a")), 0): (None, None), "junk": None, (5,): ()}
            self.card(True, far, CALM, more, plough, ((), table))

    def test_drawn(self):
        many = {True: 0, False: 0}
        rng = random.Random(23)
        for city, sky, rule in kept_worlds(40):
            for plough in range(len(city[2])):
                due = due_of(city, sky, rule, plough)
                facts = all_facts(city, plough)
                table = table_of(due, plough, facts)
                self.card(True, city, sky, rule, plough, (facts, table))
                lot = tuple(rng.sample(facts, len(facts) - 1))
                good = table_of(due, plough, lot)
                first = {}
                for standing, order in due.items():
                    first.setdefault(sight(standing, plough, lot), order)
                many[good is not None] += 1
                self.card(good is not None, city, sky, rule, plough, (lot, first))
        self.assertGreater(min(many.values()), 5)

    def test_other_things(self):
        facts, table = self.GOOD
        for thing in OTHER_THINGS + (
            [facts, table], (facts,), (facts, table, table), (list(facts), table), (facts, list(table.items())), (table, facts), (facts, None), (None, table),
            ("time", table), (("time",), table), {facts: 1}, (facts, ()),
        ):
            self.card(False, TIMED, CALM, CLOCK, 0, thing)


class CardOf(CardCase):
    def check(self, city, sky, rule, plough, facts):
        before = copy.deepcopy((city, sky, rule, facts))
        told = card_of(city, sky, rule, plough, facts)
        self.assertEqual((city, sky, rule, facts), before)
        self.assertIsInstance(told, tuple)
        due = due_of(city, sky, rule, plough)
        table = table_of(due, plough, facts)
        if table is not None:
            self.assertEqual(told, (facts, table))
            self.card(True, city, sky, rule, plough, told)
        else:
            one, other = told
            self.assertTrue(are_alike(due, plough, facts, one, other))
        return told

    def test_a_card(self):
        self.assertEqual(self.check(TIMED, CALM, CLOCK, 0, (("time",),)), Cards.GOOD)
        self.assertEqual(self.check(KEPT, STORM, ALWAYS, 0, ()), ((), {("a",): ("hill", True), ("b",): ("hill", True)}))
        self.check(KEPT, STORM, ALWAYS, 0, (("snow", 0), ("time",)))
        self.check(KEPT, STORM, ALWAYS, 0, (("time",), ("snow", 0)))
        self.check(TIMED, CALM, CLOCK, 0, (("time",), ("time",), ("state",)))

    def test_a_pair(self):
        one, other = self.check(TIMED, CALM, CLOCK, 0, ())
        self.assertIn({one[0], other[0]}, ({0, 3}, {1, 2}))
        self.check(TIMED, CALM, CLOCK, 0, (("state",), ("snow", 0), ("fallen",)))

    def test_drawn(self):
        kinds = {True: 0, False: 0}
        rng = random.Random(24)
        for city, sky, rule in kept_worlds(40):
            for plough in range(len(city[2])):
                facts = all_facts(city, plough)
                for many in range(len(facts) + 1):
                    told = self.check(city, sky, rule, plough, tuple(rng.sample(facts, many)))
                    kinds[isinstance(told[1], dict)] += 1
        self.assertGreater(min(kinds.values()), 40)


class Fewest(CardCase):
    def check(self, city, sky, rule, plough):
        before = copy.deepcopy((city, sky, rule))
        told = fewest_facts(city, sky, rule, plough)
        self.assertEqual((city, sky, rule), before)
        self.assertEqual(told, fewest_facts(city, sky, rule, plough))
        card, pairs = told
        due = due_of(city, sky, rule, plough)
        # All lots are tried, by their size and then ascending.
        lots = sorted(itertools.chain(*[itertools.combinations(facts_of(city, plough), k) for k in range(12)]), key=lambda lot: (len(lot), lot))
        wanted = [lot for lot in lots if table_of(due, plough, lot) is not None][0]
        self.assertEqual(card, (wanted, table_of(due, plough, wanted)))
        fewer = [lot for lot in lots if len(lot) == len(wanted) - 1]
        self.assertIsInstance(pairs, tuple)
        self.assertEqual([facts for facts, _, _ in pairs], fewer)
        for facts, one, other in pairs:
            self.assertTrue(are_alike(due, plough, facts, one, other))
        self.card(True, city, sky, rule, plough, card)
        self.pairs(True, city, sky, rule, plough, len(wanted) - 1, pairs)
        return told

    def test_none_is_needed(self):
        self.assertEqual(self.check(KEPT, STORM, ALWAYS, 0), (((), {("a",): ("hill", True), ("b",): ("hill", True)}), ()))

    def test_the_time(self):
        card, pairs = self.check(TIMED, CALM, CLOCK, 0)
        self.assertEqual(card, Cards.GOOD)
        self.assertEqual([facts for facts, _, _ in pairs], [()])

    def test_the_first_of_those_that_do(self):
        # The state goes with the time: either does, and the state is ahead.
        sky = ("s0", tuple((f"s{k}", ((f"s{(k + 1) % 4}", ()),)) for k in range(4)))
        rule = {(time, f"s{time}") + rest: orders for (time, _, *rest_of), orders in CLOCK.items() for rest in [tuple(rest_of)]}
        card, pairs = self.check(TIMED, sky, rule, 0)
        self.assertEqual(card[0], (("state",),))
        self.assertEqual(len(pairs), 1)

    def test_of_verdicts(self):
        for city in (TOWN, PAIR, TOWN[:3] + ((3, 0, 0),)):
            word, rule = verdict(city, FAIR)
            if word == "promised":
                for plough in range(len(city[2])):
                    self.check(city, FAIR, rule, plough)

    def test_drawn(self):
        sizes = set()
        for city, sky, rule in kept_worlds(60):
            for plough in range(len(city[2])):
                card, _ = self.check(city, sky, rule, plough)
                sizes.add(len(card[0]))
        self.assertLessEqual({0, 1, 2, 3, 4}, sizes)

    def test_five_streets_and_four_ploughs(self):
        streets = tuple((f"s{k}", "a", "b", 1, 1, 9, ()) for k in range(5))
        city = (("a", "b"), streets, tuple((f"p{k}", "a") for k in range(4)), (4, 0, 0))
        orders = {0: ("s0", True), 1: ("s0", True)}, {}, {3: ("s1", False)}, dict.fromkeys(range(4), ("s2", True))
        rule = slow.rule_by(city, CALM, lambda standing: tuple(given.get(standing[0]) for given in orders))
        for plough in range(4):
            self.check(city, CALM, rule, plough)


class Pairs(CardCase):
    FIRST, SECOND, THIRD, FOURTH = CLOCK

    def test_to_the_sign(self):
        for one, other in ((self.FIRST, self.FOURTH), (self.FOURTH, self.FIRST), (self.SECOND, self.THIRD), (self.THIRD, self.SECOND)):
            self.pairs(True, TIMED, CALM, CLOCK, 0, 0, (((), one, other),))
        for one, other in ((self.FIRST, self.SECOND), (self.FIRST, self.THIRD), (self.FIRST, self.FIRST), (self.FOURTH, self.SECOND)):
            self.pairs(False, TIMED, CALM, CLOCK, 0, 0, (((), one, other),))

    def test_so_many_facts(self):
        one, other = self.FIRST, self.FOURTH
        # With the time there is a card, so that no lots of one fact can all have a pair.
        rows = tuple(((fact,), one, other) for fact in all_facts(TIMED, 0))
        self.pairs(False, TIMED, CALM, CLOCK, 0, 1, rows)
        self.pairs(False, TIMED, CALM, CLOCK, 0, 1, rows[:-1])
        self.pairs(False, TIMED, CALM, CLOCK, 0, 0, ())
        self.pairs(False, TIMED, CALM, CLOCK, 0, 0, (((), one, other),) * 2)
        self.pairs(False, TIMED, CALM, CLOCK, 0, 1, (((), one, other),))
        self.pairs(False, TIMED, CALM, CLOCK, 0, 4, (((), one, other),))
        self.pairs(False, TIMED, CALM, CLOCK, 0, 4, ())

    def test_of_less_than_none(self):
        self.pairs(True, TIMED, CALM, CLOCK, 0, -1, ())
        self.pairs(True, KEPT, STORM, ALWAYS, 0, -1, ())
        for thing in ([], None, {}, "", 0, False, ((),), (((), self.FIRST, self.FOURTH),)):
            self.pairs(False, TIMED, CALM, CLOCK, 0, -1, thing)
        self.pairs(False, KEPT, STORM, ALWAYS, 0, 0, ())

    def many_rows(self):
        """The pairs of a rule whose card has two facts or more."""
        for city, sky, rule in kept_worlds(60):
            for plough in range(len(city[2])):
                card, pairs = fewest_facts(city, sky, rule, plough)
                if len(pairs) > 3:
                    yield city, sky, rule, plough, len(card[0]) - 1, pairs

    def test_one_lacking_or_too_many_or_in_another_order(self):
        found = 0
        for city, sky, rule, plough, many, pairs in self.many_rows():
            found += 1
            self.pairs(True, city, sky, rule, plough, many, pairs)
            for place in range(len(pairs)):
                self.pairs(False, city, sky, rule, plough, many, pairs[:place] + pairs[place + 1:])
            self.pairs(False, city, sky, rule, plough, many, pairs + pairs[-1:])
            self.pairs(False, city, sky, rule, plough, many, pairs[:1] + pairs)
            self.pairs(False, city, sky, rule, plough, many, pairs[::-1])
            self.pairs(False, city, sky, rule, plough, many, pairs[1:2] + pairs[:1] + pairs[2:])
            self.pairs(False, city, sky, rule, plough, many, list(pairs))
            self.pairs(False, city, sky, rule, plough, many - 1, pairs)
            self.pairs(False, city, sky, rule, plough, many + 1, pairs)
            # Which of the two is first is no matter.
            self.pairs(True, city, sky, rule, plough, many, tuple((facts, other, one) for facts, one, other in pairs))
        self.assertGreater(found, 10)

    def test_a_row_changed(self):
        rng = random.Random(25)
        many_kinds = {True: 0, False: 0}
        for city, sky, rule, plough, many, pairs in self.many_rows():
            due = due_of(city, sky, rule, plough)
            for _ in range(5):
                place = rng.randrange(len(pairs))
                facts, one, _ = pairs[place]
                other = rng.choice(sorted(rule))
                if rng.random() < 0.5:
                    alike = [standing for standing in sorted(due) if sight(standing, plough, facts) == sight(one, plough, facts)]
                    other = rng.choice(alike)
                wanted = are_alike(due, plough, facts, one, other)
                many_kinds[wanted] += 1
                self.pairs(wanted, city, sky, rule, plough, many, pairs[:place] + ((facts, one, other),) + pairs[place + 1:])
        self.assertGreater(min(many_kinds.values()), 10)

    def test_standings_that_the_rule_does_not_come_to(self):
        one, other = self.FIRST, self.FOURTH
        for thing in (
            (3, "s", (1,), (("at", "a"),), 0), (2, "s", (0,), (("at", "a"),), 0), (3, "t", (0,), (("at", "a"),), 0), (), None, 0, "s", [*self.FOURTH], {}, (other,),
            other[:4], ([3], "s", (0,), (("at", "a"),), 0), (3, "s", [0], (("at", "a"),), 0), (3, "s", (0,), [("at", "a")], 0), (3, "s", (0,), (["at", "a"],), 0),
            (3, "s", (False,), (("at", "a"),), 0), (3, "s", (0,), (("at", "a"),), False),
        ):
            self.pairs(False, TIMED, CALM, CLOCK, 0, 0, (((), one, thing),))
            self.pairs(False, TIMED, CALM, CLOCK, 0, 0, (((), thing, one),))
            more = {**CLOCK, (3, "s", (1,), (("at", "a"),), 0): (None,), (2, "s", (0,), (("at", "a"),), 0): (None,)}
            self.pairs(False, TIMED, CALM, more, 0, 0, (((), one, thing),))

    def test_with_the_plough_on_a_street(self):
        city = (("a", "b"), (("hill", "a", "b", 2, 2, 9, ()),), (("ann", "a"),), (2, 0, 0))
        rule = {
            (0, "s", (0,), (("at", "a"),), 0): (("hill", True),), (1, "s", (0,), (("on", "hill", "b", True, 1),), 0): (None,),
            (0, "s", (0,), (("at", "b"),), 0): (None,), (1, "s", (0,), (("at", "b"),), 0): (None,),
        }
        self.assertEqual(fewest_facts(city, CALM, rule, 0), (((), {("a",): ("hill", True), ("b",): None}), ()))
        self.pairs(False, city, CALM, rule, 0, 0, (((), (0, "s", (0,), (("at", "a"),), 0), (1, "s", (0,), (("on", "hill", "b", True, 1),), 0)),))

    def test_facts_of_a_row(self):
        one, other = self.FIRST, self.FOURTH
        for facts in (None, [], (("time",),), "", 0, {}, ((),), (("snow", 0),)):
            self.pairs(False, TIMED, CALM, CLOCK, 0, 0, ((facts, one, other),))
        for city, sky, rule, plough, many, pairs in self.many_rows():
            for place, (facts, first, second) in enumerate(pairs):
                strange = tuple(("snow", bool(fact[1])) if fact in (("snow", 0), ("snow", 1)) else fact for fact in facts)
                self.pairs(strange == facts and repr(strange) == repr(facts), city, sky, rule, plough, many,
                           pairs[:place] + ((strange, first, second),) + pairs[place + 1:])
                if many > 1:
                    self.pairs(False, city, sky, rule, plough, many, pairs[:place] + ((facts[::-1], first, second),) + pairs[place + 1:])

    def test_other_things(self):
        one, other = self.FIRST, self.FOURTH
        for thing in OTHER_THINGS + (
            [((), one, other)], (((), one),), (((), one, other, other),), ([(), one, other],), (((), (one, other)),), ((one, other),), {((), one, other): 1},
            ((), one, other), (None,), (0,), ("abc",),
        ):
            self.pairs(False, TIMED, CALM, CLOCK, 0, 0, thing)
        for thing in OTHER_THINGS:
            self.pairs(False, TIMED, CALM, CLOCK, 0, 2, thing)

    def test_the_beginning_is_one_of_them(self):
        self.assertEqual(self.FIRST, beginning(TIMED, CALM))


if __name__ == "__main__":
    unittest.main()
