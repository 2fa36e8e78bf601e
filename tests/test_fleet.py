"""[24] Without a desk."""

import copy
import random
import unittest

from snowsure.cards import fewest_facts, is_card, seen_with
from snowsure.errors import BadOrders, BadPaper
from snowsure.fleet import are_cards, cards_for, driven_by_cards, ever_closed, orders_by_cards
from snowsure.games import verdict
from snowsure.world import beginning
from tests import slow
from tests.samples import ALWAYS, FAIR, KEPT, OTHER_THINGS, PAIR, STORM, TOWN, kept_worlds

FIRST = beginning(KEPT, STORM)
COMES, STAYS = (0, (True,), None), (0, (False,), None)
ANN = ((), {("a",): ("hill", True), ("b",): None})
BOB = ((("plough", 0),), {("b", ("at", "a")): ("hill", False), ("b", ("down",)): ("hill", True), ("a", ("on", "hill", "b", True, 0)): None})
TWO = (("a", "b"), (("hill", "a", "b", 1, 2, 2, ()),), (("ann", "a"), ("bob", "b")), (3, 1, 2))


def drawn_way(city, sky, rule, many, rng):
    """Answers to a rule, drawn, and the standings that come of them."""
    way = [slow.start(city, sky)]
    answers = []
    for _ in range(many):
        answers.append(rng.choice(slow.answers(city, sky, way[-1], rule[way[-1]])))
        way.append(slow.behind(city, sky, way[-1], rule[way[-1]], answers[-1]))
    return answers, way


class CardsFor(unittest.TestCase):
    def check(self, city, sky, rule):
        before = copy.deepcopy((city, sky, rule))
        cards = cards_for(city, sky, rule)
        self.assertEqual((city, sky, rule), before)
        self.assertIsInstance(cards, tuple)
        self.assertEqual(cards, tuple(fewest_facts(city, sky, rule, plough)[0] for plough in range(len(city[2]))))
        self.assertTrue(are_cards(city, sky, rule, cards))
        self.assertEqual((city, sky, rule), before)
        return cards

    def test_one_plough(self):
        self.assertEqual(self.check(KEPT, STORM, ALWAYS), (((), {("a",): ("hill", True), ("b",): ("hill", True)}),))
        self.check(TOWN, FAIR, verdict(TOWN, FAIR)[1])

    def test_many_ploughs(self):
        for city, sky, rule in kept_worlds(60):
            self.check(city, sky, rule)
        streets = (("s0", "a", "b", 1, 1, 9, ()), ("s1", "a", "c", 1, 1, 9, ()))
        city = (("a", "b", "c"), streets, (("p0", "a"), ("p1", "b"), ("p2", "c"), ("p3", "a")), (1, 0, 0))
        calm = ("s", (("s", (("s", ()),)),))
        orders = {"a": ("s0", False), "b": ("s0", True), "c": None}
        rule = slow.rule_by(city, calm, lambda standing: (*[orders[plough[1]] for plough in standing[3][:3]], None))
        self.assertEqual(len(self.check(city, calm, rule)), 4)


class AreCards(unittest.TestCase):
    def test_each_has_to_be_one(self):
        found = 0
        for city, sky, rule in kept_worlds(60):
            cards = cards_for(city, sky, rule)
            self.assertIs(are_cards(city, sky, rule, cards), True)
            for number, card in enumerate(cards):
                facts, table = card
                for sight in list(table)[:3]:
                    lacking = {other: table[other] for other in table if other != sight}
                    self.assertIs(are_cards(city, sky, rule, cards[:number] + ((facts, lacking),) + cards[number + 1:]), False)
                for thing in OTHER_THINGS:
                    self.assertIs(are_cards(city, sky, rule, cards[:number] + (thing,) + cards[number + 1:]), False)
            self.assertIs(are_cards(city, sky, rule, cards[:-1]), False)
            self.assertIs(are_cards(city, sky, rule, cards + cards[-1:]), False)
            self.assertIs(are_cards(city, sky, rule, cards[1:]), False)
            self.assertIs(are_cards(city, sky, rule, list(cards)), False)
            if len(cards) == 2:
                found += 1
                about = cards[::-1]
                wanted = all(is_card(city, sky, rule, plough, card) for plough, card in enumerate(about))
                self.assertIs(are_cards(city, sky, rule, about), wanted)
        self.assertGreater(found, 5)

    def test_two_changed_about(self):
        rule = {
            (time, "s", (0,), (("at", "a"), ("at", end)), 0): (None, ("hill", False))
            for time in range(3) for end in "ab"
        }
        city = (("a", "b"), (("hill", "a", "b", 1, 1, 2, ()),), (("ann", "a"), ("bob", "b")), (3, 0, 0))
        calm = ("s", (("s", (("s", ()),)),))
        cards = cards_for(city, calm, rule)
        self.assertEqual(cards, (((), {("a",): None}), ((), {("b",): ("hill", False), ("a",): ("hill", False)})))
        self.assertIs(are_cards(city, calm, rule, cards), True)
        self.assertIs(are_cards(city, calm, rule, cards[::-1]), False)

    def test_other_things(self):
        (card,) = cards_for(KEPT, STORM, ALWAYS)
        for thing in OTHER_THINGS + (card, [card], {0: card}, (card, card), ((card,),), (card[0],), (card[1],)):
            self.assertIs(are_cards(KEPT, STORM, ALWAYS, thing), False)


class Orders(unittest.TestCase):
    def test_at_junctions(self):
        cards = cards_for(KEPT, STORM, ALWAYS)
        for standing in ALWAYS:
            self.assertEqual(orders_by_cards(standing, cards), (("hill", True),))
        before = copy.deepcopy((ANN, BOB))
        self.assertEqual(orders_by_cards((0, "s", (0,), (("at", "a"), ("at", "b")), 0), (ANN, BOB)), (("hill", True), ("hill", False)))
        self.assertEqual((ANN, BOB), before)

    def test_on_streets_and_down(self):
        riding = ("on", "hill", "b", True, 0)
        self.assertEqual(orders_by_cards((1, "s", (0,), (riding, ("at", "a")), 0), (ANN, BOB)), (None, None))
        self.assertEqual(orders_by_cards((1, "s", (0,), (riding, riding), 0), (ANN, BOB)), (None, None))
        self.assertEqual(orders_by_cards((1, "s", (0,), (("down",), ("at", "b")), 1), (ANN, BOB)), (None, ("hill", True)))
        self.assertEqual(orders_by_cards((1, "s", (0,), (("down",), ("down",)), 2), (ANN, BOB)), (None, None))
        self.assertEqual(orders_by_cards((1, "s", (0,), (("at", "a"), ("down",)), 1), (ANN, BOB)), (("hill", True), None))
        self.assertEqual(orders_by_cards((1, "s", (0,), (riding,), 0), (((), {}),)), (None,))

    def test_as_the_rule(self):
        for city, sky, rule in kept_worlds(60):
            cards = cards_for(city, sky, rule)
            for standing in rule:
                self.assertEqual(orders_by_cards(standing, cards), rule[standing])

    def test_a_card_that_tells_nothing(self):
        for standing, cards in (
            (FIRST, (((), {}),)), (FIRST, (((), {("b",): None}),)), (FIRST, (((("time",),), {("a", 1): None}),)), (FIRST, (((("time",),), {("a",): None}),)),
            ((0, "s", (0,), (("at", "a"), ("at", "a")), 0), (ANN, BOB)), ((0, "s", (0,), (("at", "b"), ("at", "b")), 0), (ANN, BOB)),
        ):
            before = copy.deepcopy(cards)
            with self.assertRaises(BadPaper) as caught:
                orders_by_cards(standing, cards)
            self.assertEqual(caught.exception.why, "card")
            self.assertEqual(cards, before)


class Driven(unittest.TestCase):
    def test_to_the_sign(self):
        cards = cards_for(KEPT, STORM, ALWAYS)
        self.assertEqual(driven_by_cards(KEPT, STORM, cards, ()), [FIRST])
        self.assertEqual(driven_by_cards(KEPT, STORM, cards, []), [FIRST])
        told = driven_by_cards(KEPT, STORM, cards, (COMES,) * 2)
        self.assertEqual(told, [FIRST, (1, "s", (1,), (("at", "b"),), 0), (2, "s", (1,), (("at", "a"),), 0)])

    def test_drawn(self):
        rng = random.Random(24)
        for city, sky, rule in kept_worlds(60):
            cards = cards_for(city, sky, rule)
            answers, way = drawn_way(city, sky, rule, 40, rng)
            before = copy.deepcopy((cards, answers))
            told = driven_by_cards(city, sky, cards, tuple(answers))
            self.assertIsInstance(told, list)
            self.assertEqual(told, way)
            self.assertEqual(driven_by_cards(city, sky, cards, answers), way)
            self.assertEqual((cards, answers), before)
            self.assertEqual(ever_closed(city, told), ())

    def test_answers_that_can_not_be(self):
        cards = cards_for(KEPT, STORM, ALWAYS)
        for answer in (None, (), 0, (1, (True,), None), STAYS, (0, (True,), 0), (True, (True,), None), (0, (1,), None), [0, (True,), None], "0 y -"):
            for answers in ((answer,), (COMES, COMES, answer, COMES), [COMES, answer], (COMES, answer, None)):
                with self.assertRaises(BadOrders) as caught:
                    driven_by_cards(KEPT, STORM, cards, answers)
                self.assertIs(caught.exception.thing, answer)

    def test_cards_with_orders_that_can_not_be_given(self):
        card = ((), {("a",): ("moon", True), ("b",): ("hill", True)})
        with self.assertRaises(BadOrders) as caught:
            driven_by_cards(KEPT, STORM, (card,), (COMES,))
        self.assertEqual(caught.exception.thing, (("moon", True),))

    def test_a_card_that_tells_nothing(self):
        card = ((), {("a",): ("hill", True)})
        self.assertEqual(len(driven_by_cards(KEPT, STORM, (card,), (COMES,))), 2)
        for answers in ((COMES, COMES), [COMES, None], (COMES, STAYS)):
            with self.assertRaises(BadPaper) as caught:
                driven_by_cards(KEPT, STORM, (card,), answers)
            self.assertEqual(caught.exception.why, "card")
        with self.assertRaises(BadOrders):
            driven_by_cards(KEPT, STORM, (card,), (STAYS, COMES))

    def test_ploughs_late_and_down(self):
        rule = slow.rule_by(TWO, STORM, lambda standing: tuple(("hill", True) if plough[0] == "at" else None for plough in standing[3]))
        cards = cards_for(TWO, STORM, rule)
        self.assertIs(are_cards(TWO, STORM, rule, cards), True)
        rng = random.Random(7)
        ends = set()
        for _ in range(20):
            answers, way = drawn_way(TWO, STORM, rule, 12, rng)
            self.assertEqual(driven_by_cards(TWO, STORM, cards, answers), way)
            ends.add(way[-1][4])
        self.assertEqual(ends, {2})


class EverClosed(unittest.TestCase):
    STREETS = tuple((name, "a", "b", 1, 1, 0, hours) for name, hours in (("s2", ((0, 1),)), ("s0", ((0, 2),)), ("s1", ((1, 3),)), ("s3", ())))
    CITY = (("a", "b"), STREETS, (("ann", "a"),), (4, 0, 0))

    def standing(self, time, *snow):
        return (time, "s", snow, (("at", "a"),), 0)

    def check(self, standings, wanted):
        before = copy.deepcopy(standings)
        told = ever_closed(self.CITY, standings)
        self.assertEqual(standings, before)
        self.assertIsInstance(told, tuple)
        self.assertEqual(told, wanted)

    def test_none(self):
        self.check([], ())
        self.check((), ())
        self.check([self.standing(0, 0, 0, 1, 1)], ())
        self.check([self.standing(3, 1, 1, 1, 1)] * 3, ())

    def test_one(self):
        self.check([self.standing(0, 1, 0, 0, 0)], ("s2",))
        self.check([self.standing(3, 1, 1, 1, 1), self.standing(1, 1, 0, 1, 1)], ("s1",))

    def test_several_ascending_and_each_once(self):
        self.check([self.standing(0, 1, 1, 1, 1)], ("s0", "s2"))
        self.check((self.standing(0, 1, 0, 0, 0), self.standing(1, 0, 0, 1, 0), self.standing(0, 1, 1, 0, 0), self.standing(2, 1, 1, 1, 1)), ("s0", "s1", "s2"))
        self.check([self.standing(1, 1, 1, 1, 1), self.standing(0, 1, 1, 1, 1), self.standing(1, 1, 1, 1, 1)], ("s0", "s1", "s2"))

    def test_of_a_beaten_run(self):
        idle = (((), {("a",): None, ("b",): None}),)
        self.assertEqual(ever_closed(KEPT, driven_by_cards(KEPT, STORM, idle, (STAYS,) * 3)), ("hill",))
        self.assertEqual(ever_closed(KEPT, driven_by_cards(KEPT, STORM, idle, (STAYS,) * 2)), ())
        self.assertEqual(ever_closed(PAIR, [beginning(PAIR, FAIR)]), ())

    def test_with_the_cards_none_is_closed(self):
        for standing in ALWAYS:
            self.assertEqual(seen_with(standing, 0, ()), (standing[3][0][1],))
        self.assertEqual(ever_closed(KEPT, driven_by_cards(KEPT, STORM, cards_for(KEPT, STORM, ALWAYS), (COMES,) * 60)), ())


if __name__ == "__main__":
    unittest.main()
