"""[15], [16] The desk: the book, and rules at the desk."""

import copy
import random
import unittest

from snowsure.deskerrors import BadCut
from snowsure.desks import Desk, book_in, book_line, departures, proposal, standings_in
from snowsure.errors import BadOrders, SnowError
from snowsure.games import verdict
from snowsure.runs import first_closed, run
from snowsure.standingtexts import answer_text, orders_text
from snowsure.world import answers_of, beginning, closed_streets, follow, orders_of
from tests import slow
from tests.samples import FAIR, OTHER_THINGS, PAIR, STORM, TOWN, small_worlds

HILL = ("hill", "a", "b", 1, 1, 2, ((0, 3),))
CITY = (("a", "b"), (HILL,), (("ann", "a"),), (3, 0, 0))
WORK, PASS, IDLE = (("hill", True),), (("hill", False),), (None,)
COMES, STAYS = (0, (True,), None), (0, (False,), None)
RULE = verdict(TOWN, FAIR)[1]


def some_ticks(city, sky, many, seed=0):
    """Ticks that can be, from the beginning on."""
    rng = random.Random(seed)
    standing = slow.start(city, sky)
    ticks = []
    for _ in range(many):
        orders = rng.choice(slow.orders(city, standing))
        answer = rng.choice(slow.answers(city, sky, standing, orders))
        ticks.append((orders, answer))
        standing = slow.behind(city, sky, standing, orders, answer)
    return tuple(ticks)


def line(number, orders, answer):
    """A line, told a second time."""
    words = ["-" if order is None else order[0] + (":work" if order[1] else ":pass") for order in orders]
    arc, comes, breaks = answer
    told = [str(arc), "".join("ny"[here] for here in comes), "-" if breaks is None else str(breaks)]
    return " ".join([str(number), *words, "/", *told, str(number)])


def book(ticks):
    return "".join(line(number, *tick) + "\n" for number, tick in enumerate(ticks))


def state_of(desk):
    return (desk.text, desk.loose, desk.ticks, desk.standing)


class Books(unittest.TestCase):
    def read(self, city, sky, text, ticks):
        """A text is read as these ticks and no more."""
        before = copy.deepcopy((city, sky))
        told = book_in(city, sky, text)
        self.assertEqual((city, sky), before)
        self.assertEqual(told, (ticks, run(city, sky, ticks)[-1], len(book(ticks))), repr(text))
        self.assertEqual(repr(told[0]), repr(ticks))
        self.assertTrue(text.startswith(book(ticks)))
        desk = Desk(city, sky, text)
        self.assertEqual(state_of(desk), (book(ticks), "", ticks, told[1]))

    def test_lines(self):
        self.assertEqual(book_line(0, WORK, COMES), "0 hill:work / 0 y - 0")
        self.assertEqual(book_line(12, (None, ("bc", False)), (3, (False, True), 1)), "12 - bc:pass / 3 ny 1 12")
        for city, sky in ((TOWN, FAIR), (PAIR, FAIR)):
            for number, (orders, answer) in enumerate(some_ticks(city, sky, 120)):
                told = book_line(number, orders, answer)
                self.assertEqual(told, line(number, orders, answer))
                self.assertEqual(told, f"{number} {orders_text(orders)} / {answer_text(answer)} {number}")

    def test_no_line(self):
        for text in ("", "\n", " ", "nonsense", "nonsense\n", "\n0 hill:work / 0 y - 0\n", " 0 hill:work / 0 y - 0\n", "#\n"):
            self.read(CITY, STORM, text, ())
        self.assertEqual(book_in(CITY, STORM, ""), ((), beginning(CITY, STORM), 0))

    def test_one_line(self):
        self.read(CITY, STORM, "0 hill:work / 0 y - 0\n", ((WORK, COMES),))
        self.assertEqual(book_in(CITY, STORM, "0 hill:work / 0 y - 0\n"), (((WORK, COMES),), (1, "s", (1,), (("at", "b"),), 0), 22))

    def test_many_lines(self):
        for city, sky in [(TOWN, FAIR), (PAIR, FAIR)] + small_worlds(20):
            for many in (2, 11, 130):
                ticks = some_ticks(city, sky, many, many)
                self.read(city, sky, book(ticks), ticks)

    def test_without_the_last_line_feed(self):
        ticks = some_ticks(TOWN, FAIR, 12)
        self.read(TOWN, FAIR, book(ticks)[:-1], ticks[:-1])
        self.read(TOWN, FAIR, book(ticks) + line(12, IDLE, (0, (False,), None)), ticks)

    def test_each_beginning(self):
        ticks = some_ticks(PAIR, FAIR, 5)
        text = book(ticks)
        for many in range(len(text) + 1):
            self.read(PAIR, FAIR, text[:many], ticks[:text[:many].count("\n")])

    def test_a_wrong_number(self):
        ticks = some_ticks(TOWN, FAIR, 12)
        lines = book(ticks).split("\n")[:-1]
        for place in (0, 1, 5, 9, 10, 11):
            words = lines[place].split(" ")
            for number in ("", "x", str(place + 1), str(place - 1), f"0{place}", f"+{place}", f" {place}", "999", f"{place}.0", "-0"):
                ahead = " ".join([number, *words[1:]])
                behind = " ".join([*words[:-1], number])
                both = " ".join([number, *words[1:-1], number])
                for wrong in (ahead, behind, both):
                    self.read(TOWN, FAIR, "\n".join([*lines[:place], wrong, *lines[place + 1:], ""]), ticks[:place])

    def test_a_line_twice_or_lacking(self):
        ticks = some_ticks(TOWN, FAIR, 12)
        lines = book(ticks).split("\n")[:-1]
        for place in range(12):
            self.read(TOWN, FAIR, "\n".join([*lines[:place + 1], *lines[place:], ""]), ticks[:place + 1])
            if place < 11:
                self.read(TOWN, FAIR, "\n".join([*lines[:place], *lines[place + 1:], ""]), ticks[:place])

    def test_orders_that_can_not_be_given(self):
        self.read(CITY, STORM, "0 nowhere:work / 0 y - 0\n", ())
        self.read(CITY, STORM, "0 hill:work hill:work / 0 y - 0\n", ())
        self.read(CITY, STORM, "0 / 0 y - 0\n", ())
        self.read(CITY, STORM, "0 hill / 0 y - 0\n", ())
        late = TOWN[:3] + ((3, 2, 0),)
        one = ((WORK, (0, (False,), None)),)
        self.read(late, FAIR, "0 hill:work / 0 n - 0\n1 hill:pass / 0 n - 1\n", one)
        self.read(late, FAIR, "0 hill:work / 0 n - 0\n1 - / 0 n - 1\n", one + ((IDLE, (0, (False,), None)),))

    def test_answers_that_can_not_be(self):
        for answer in ("0 n -", "1 y -", "0 y 0", "0 yy -", "0 - -", "y -", "0 y", "0 y -  ", "00 y -", ""):
            self.read(CITY, STORM, f"0 hill:work / {answer} 0\n", ())
        self.read(CITY, STORM, "0 - / 0 y - 0\n", ())
        self.read(CITY, STORM, "0 - / 0 n - 0\n1 - / 0 y - 1\n", ((IDLE, STAYS),))
        self.read(PAIR, FAIR, "0 - - / 0 nn 1 0\n1 - - / 0 nn 0 1\n", (((None, None), (0, (False, False), 1)),))

    def test_a_line_with_something_more(self):
        first, second = line(0, WORK, COMES), line(1, WORK, COMES)
        for wrong in (second + " ", " " + second, second + "\r", second + " #", second + " 1", "1 " + second, second.replace(" ", "  ", 1),
                      second.replace("/", "//"), second.replace(" / ", " / / "), second.replace("/", ""), second + "\t", second.replace("/", "\\"),
                      second.replace(" / ", " /"), second.upper(), second + "\x00", second.replace(" ", "\t"), ""):
            self.read(CITY, STORM, f"{first}\n{wrong}\n{line(2, WORK, COMES)}\n", ((WORK, COMES),))

    def test_the_ticks_behind_a_wrong_one_are_lost(self):
        ticks = some_ticks(TOWN, FAIR, 9)
        lines = book(ticks).split("\n")
        self.read(TOWN, FAIR, "\n".join(lines[:4] + ["x"] + lines[4:]), ticks[:4])

    def test_a_sign_changed(self):
        ticks = some_ticks(TOWN, FAIR, 3, 2)
        text = book(ticks)
        for place in range(len(text)):
            for sign in " \n/-0129nyx:":
                told, standing, many = book_in(TOWN, FAIR, text[:place] + sign + text[place + 1:])
                changed = text[:place] + sign + text[place + 1:]
                self.assertEqual(changed[:many], book(told))
                self.assertEqual(standing, run(TOWN, FAIR, told)[-1])
                if sign != text[place]:
                    self.assertGreaterEqual(len(told), text[:place].count("\n"))


class Desks(unittest.TestCase):
    def test_an_empty_desk(self):
        self.assertEqual(state_of(Desk(TOWN, FAIR, "")), ("", "", (), beginning(TOWN, FAIR)))

    def test_a_desk_goes_on(self):
        for text in ("0 hill:work / 0 y - 0\n", "0 hill:work / 0 y - 0\n1 hill", "0 hill:work / 0 y - 0\nnonsense\n1 - / 0 n - 1\n"):
            desk = Desk(CITY, STORM, text)
            self.assertEqual(state_of(desk), ("0 hill:work / 0 y - 0\n", "", ((WORK, COMES),), (1, "s", (1,), (("at", "b"),), 0)))
            desk.write(IDLE, STAYS)
            self.assertEqual(desk.loose, "1 - / 0 n - 1\n")
            desk.settle()
            self.assertEqual(desk.text, "0 hill:work / 0 y - 0\n1 - / 0 n - 1\n")

    def test_written_and_settled(self):
        for city, sky in ((TOWN, FAIR), (PAIR, FAIR)):
            ticks = some_ticks(city, sky, 40, 7)
            for often in (1, 2, 3, 7, 50):
                desk = Desk(city, sky, "")
                settled = 0
                for number, (orders, answer) in enumerate(ticks):
                    self.assertIsNone(desk.write(orders, answer))
                    done = ticks[:number + 1]
                    self.assertEqual(desk.loose, book(done)[len(book(ticks[:settled])):])
                    self.assertEqual(desk.text, book(ticks[:settled]))
                    self.assertEqual((desk.ticks, desk.standing), (done, run(city, sky, done)[-1]))
                    self.assertIsInstance(desk.ticks, tuple)
                    if number % often == often - 1:
                        self.assertIsNone(desk.settle())
                        settled = number + 1
                        self.assertEqual(state_of(desk), (book(done), "", done, run(city, sky, done)[-1]))
                again = Desk(city, sky, desk.text + desk.loose)
                self.assertEqual((again.ticks, again.standing), (desk.ticks, desk.standing))

    def test_nothing_to_settle(self):
        desk = Desk(CITY, STORM, "0 hill:work / 0 y - 0\n")
        before = state_of(desk)
        desk.settle()
        desk.settle()
        self.assertEqual(state_of(desk), before)

    def test_desks_do_not_share(self):
        one, other = Desk(CITY, STORM, ""), Desk(CITY, STORM, "")
        one.write(WORK, COMES)
        self.assertEqual(state_of(other), ("", "", (), beginning(CITY, STORM)))

    def test_bad_orders(self):
        desk = Desk(TOWN, FAIR, "")
        desk.write(WORK, (0, (True,), None))
        desk.settle()
        desk.write(WORK, (0, (False,), None))
        before = state_of(desk)
        for orders in (None, (), WORK, PASS, [None], (None, None), (("nowhere", True),), "-", 0):
            for answer in ((0, (False,), None), None):
                with self.assertRaises(BadOrders) as caught:
                    desk.write(orders, answer)
                self.assertIs(caught.exception.thing, orders)
                self.assertEqual(state_of(desk), before)
        for answer in (None, (), (0, (True,), 0), (2, (False,), None), (True, (False,), None), (0, [False], None), (0, (False,), 0), "0 n -", (0, (0,), None)):
            with self.assertRaises(BadOrders) as caught:
                desk.write(IDLE, answer)
            self.assertIs(caught.exception.thing, answer)
            self.assertEqual(state_of(desk), before)
        desk.write(IDLE, (0, (True,), None))
        self.assertEqual(desk.loose, "1 hill:work / 0 n - 1\n2 - / 0 y - 2\n")

    def test_falls(self):
        for settled in range(4):
            for loose in range(4):
                ticks = some_ticks(PAIR, FAIR, settled + loose, settled * 10 + loose)
                desk = Desk(PAIR, FAIR, book(ticks[:settled]))
                for tick in ticks[settled:]:
                    desk.write(*tick)
                before = state_of(desk)
                for cut in range(len(desk.loose) + 1):
                    text = desk.fallen(cut)
                    self.assertEqual(text, book(ticks[:settled]) + book(ticks)[len(book(ticks[:settled])):][:cut])
                    self.assertEqual(state_of(desk), before)
                    after = Desk(PAIR, FAIR, text)
                    self.assertEqual(after.ticks, ticks[:text.count("\n")])
                    self.assertGreaterEqual(len(after.ticks), settled)
                    self.assertEqual(after.loose, "")
                    self.assertEqual(after.text, book(after.ticks))

    def test_a_fall_behind_a_text_that_was_no_book(self):
        desk = Desk(CITY, STORM, "0 hill:work / 0 y - 0\n1 hill:work / 0 y -")
        self.assertEqual(desk.fallen(0), "0 hill:work / 0 y - 0\n")
        with self.assertRaises(BadCut):
            desk.fallen(1)

    def test_bad_cuts(self):
        desk = Desk(CITY, STORM, "")
        for many in range(3):
            before = state_of(desk)
            for cut in (-1, -22, len(desk.loose) + 1, 10 ** 9, True, False, None, "", "0", "5", 0.0, 1.5, (), [0], b"0", {}):
                with self.assertRaises(BadCut) as caught:
                    desk.fallen(cut)
                self.assertIs(caught.exception.cut, cut)
                self.assertIsInstance(caught.exception, SnowError)
                self.assertEqual(state_of(desk), before)
            desk.write(WORK, COMES)
        desk.settle()
        self.assertEqual(desk.fallen(0), desk.text)
        with self.assertRaises(BadCut):
            desk.fallen(1)

    def test_whatever_is_written_and_cut(self):
        for city, sky in ((TOWN, FAIR), (PAIR, FAIR), small_worlds(30)[29]):
            rng = random.Random(5)
            desk = Desk(city, sky, "")
            all_ticks, settled = (), 0
            for _ in range(150):
                what = rng.randrange(6)
                if what < 4:
                    orders = rng.choice(orders_of(city, desk.standing))
                    answer = rng.choice(answers_of(city, sky, desk.standing, orders))
                    desk.write(orders, answer)
                    all_ticks = all_ticks + ((orders, answer),)
                elif what == 4:
                    desk.settle()
                    settled = len(all_ticks)
                else:
                    desk = Desk(city, sky, desk.fallen(rng.randint(0, len(desk.loose))))
                    self.assertEqual(desk.ticks, all_ticks[:len(desk.ticks)])
                    self.assertGreaterEqual(len(desk.ticks), settled)
                    all_ticks = desk.ticks
                    settled = len(all_ticks)
                self.assertEqual(desk.ticks, all_ticks)
                self.assertEqual(desk.text, book(all_ticks[:settled]))

    def test_arguments_stay(self):
        things = (TOWN, FAIR, WORK, (0, (True,), None))
        before = copy.deepcopy(things)
        Desk(TOWN, FAIR, "").write(*things[2:])
        self.assertEqual(things, before)


class Rules(unittest.TestCase):
    def kept(self, many, seed=0, rule=RULE, city=TOWN, sky=FAIR):
        """A desk that keeps to a rule."""
        rng = random.Random(seed)
        desk = Desk(city, sky, "")
        for _ in range(many):
            orders = rule[desk.standing]
            desk.write(orders, rng.choice(slow.answers(city, sky, desk.standing, orders)))
        return desk

    def test_proposal(self):
        desk = self.kept(0)
        before = copy.deepcopy(RULE)
        for turn in range(30):
            self.assertEqual(proposal(desk, RULE), RULE[desk.standing])
            answers = slow.answers(TOWN, FAIR, desk.standing, RULE[desk.standing])
            desk.write(proposal(desk, RULE), answers[turn % len(answers)])
        self.assertEqual(RULE, before)

    def test_no_orders(self):
        for many in range(4):
            desk = self.kept(many, many)
            state = state_of(desk)
            lacking = {standing: orders for standing, orders in RULE.items() if standing != desk.standing}
            for rule in ({}, lacking):
                with self.assertRaises(BadOrders) as caught:
                    proposal(desk, rule)
                self.assertEqual(caught.exception.thing, desk.standing)
                self.assertEqual(state_of(desk), state)

    def test_standings(self):
        self.assertEqual(standings_in(Desk(TOWN, FAIR, "")), (beginning(TOWN, FAIR),))
        for city, sky in ((TOWN, FAIR), (PAIR, FAIR)):
            ticks = some_ticks(city, sky, 25, 3)
            standings = [slow.start(city, sky)]
            for tick in ticks:
                standings.append(slow.behind(city, sky, standings[-1], *tick))
            for settled in (0, 10, 25):
                desk = Desk(city, sky, book(ticks[:settled]))
                for tick in ticks[settled:]:
                    desk.write(*tick)
                state = state_of(desk)
                self.assertEqual(standings_in(desk), tuple(standings))
                self.assertIsInstance(standings_in(desk), tuple)
                self.assertEqual(state_of(desk), state)

    def test_no_departures(self):
        self.assertEqual(departures(Desk(TOWN, FAIR, ""), RULE), [])
        self.assertEqual(departures(Desk(TOWN, FAIR, ""), {}), [])
        for seed in range(5):
            desk = self.kept(40, seed)
            before = copy.deepcopy(RULE)
            self.assertEqual(departures(desk, RULE), [])
            self.assertEqual(RULE, before)
            self.assertIsNone(first_closed(TOWN, standings_in(desk)))

    def test_departures(self):
        for seed in range(20):
            ticks = some_ticks(TOWN, FAIR, 30, seed)
            desk = Desk(TOWN, FAIR, book(ticks))
            wanted = []
            for number, (standing, (orders, _)) in enumerate(zip(standings_in(desk), ticks)):
                if standing not in RULE or RULE[standing] != orders:
                    wanted.append(number)
            state = state_of(desk)
            self.assertEqual(departures(desk, RULE), wanted)
            self.assertIsInstance(departures(desk, RULE), list)
            self.assertEqual(state_of(desk), state)
            self.assertEqual(departures(desk, {}), list(range(30)))

    def test_one_departure(self):
        desk = Desk(CITY, STORM, "")
        rule = {(0, "s", (0,), (("at", "a"),), 0): WORK, (1, "s", (1,), (("at", "b"),), 0): IDLE, (1, "s", (1,), (("at", "a"),), 0): IDLE}
        for orders, answer in ((WORK, COMES), (WORK, COMES)):
            desk.write(orders, answer)
        self.assertEqual(departures(desk, rule), [1])
        other = Desk(CITY, STORM, "")
        other.write(IDLE, STAYS)
        other.write(IDLE, STAYS)
        self.assertEqual(departures(other, rule), [0])
        other.write(IDLE, STAYS)
        self.assertEqual(departures(other, rule), [0, 2])

    def test_the_last_standing_is_no_tick(self):
        # At the standing behind the last tick nothing was ordered yet.
        desk = self.kept(6)
        lacking = {standing: orders for standing, orders in RULE.items() if standing in standings_in(desk)[:-1]}
        self.assertEqual(departures(desk, lacking), [])
        self.assertNotIn(desk.standing, lacking)

    def test_across_falls(self):
        rng = random.Random(3)
        desk = Desk(TOWN, FAIR, "")
        for turn in range(200):
            orders = proposal(desk, RULE)
            desk.write(orders, rng.choice(slow.answers(TOWN, FAIR, desk.standing, orders)))
            if turn % 11 == 5:
                desk.settle()
            if turn % 7 == 3:
                desk = Desk(TOWN, FAIR, desk.fallen(rng.randint(0, len(desk.loose))))
            self.assertEqual(departures(desk, RULE), [])
        self.assertFalse([standing for standing in standings_in(desk) if closed_streets(TOWN, standing)])
        self.assertGreater(len(desk.ticks), 20)

    def test_a_departure_may_be_lost_by_a_fall(self):
        desk = self.kept(3)
        desk.settle()
        other = [orders for orders in orders_of(TOWN, desk.standing) if orders != RULE[desk.standing]][0]
        desk.write(other, slow.answers(TOWN, FAIR, desk.standing, other)[0])
        self.assertEqual(departures(desk, RULE), [3])
        self.assertEqual(departures(Desk(TOWN, FAIR, desk.fallen(len(desk.loose) - 1)), RULE), [])
        self.assertEqual(departures(Desk(TOWN, FAIR, desk.fallen(len(desk.loose))), RULE), [3])

    def test_small_worlds(self):
        for city, sky in small_worlds(40):
            try:
                word, rule = verdict(city, sky)
            except SnowError:
                continue
            if word == "promised":
                desk = self.kept(20, 1, rule, city, sky)
                self.assertEqual(departures(desk, rule), [])
                standing = beginning(city, sky)
                for orders, answer in desk.ticks:
                    standing = follow(city, sky, standing, orders, answer)
                self.assertEqual(standing, desk.standing)


class OtherTexts(unittest.TestCase):
    def test_texts_of_all_kinds(self):
        for text in [thing for thing in OTHER_THINGS if isinstance(thing, str)] + ["\n" * 50, "0 " * 400, "\u00e9\n", "0 - / 0 n - 0\r\n"]:
            self.assertEqual(state_of(Desk(TOWN, FAIR, text)), ("", "", (), beginning(TOWN, FAIR)))


if __name__ == "__main__":
    unittest.main()
