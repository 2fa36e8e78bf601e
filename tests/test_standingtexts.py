"""[14] Standings as words."""

import copy
import itertools
import unittest

from snowsure.errors import BadText
from snowsure.standingtexts import answer_by, answer_text, orders_by, orders_text, standing_by, standing_text
from snowsure.world import answers_of, beginning, follow, orders_of
from tests import slow
from tests.samples import FAIR, OTHER_THINGS, PAIR, TOWN, clear_sky, empty_town, small_worlds

CITY = (
    ("a", "b", "c"),
    (("hill", "a", "b", 2, 12, 1, ((0, 1), (2, 4))), ("bc", "b", "c", 1, 1, 9, ())),
    (("ann", "a"), ("bob", "b"), ("cat", "c")),
    (12, 3, 2),
)
SKY = ("dry", (("dry", (("dry", ()), ("wet1", ("bc", "hill")))), ("wet1", (("dry", ("hill",)),) * 12)))
STANDINGS = {
    "0 dry 0,0 at:a at:b at:c 0": (0, "dry", (0, 0), (("at", "a"), ("at", "b"), ("at", "c")), 0),
    "11 wet1 2,10 on:hill:b:work:11 on:bc:c:pass:0 down 1":
        (11, "wet1", (2, 10), (("on", "hill", "b", True, 11), ("on", "bc", "c", False, 0), ("down",)), 1),
    "3 dry 1,0 on:hill:a:pass:-1 at:c on:bc:b:work:-2 0":
        (3, "dry", (1, 0), (("on", "hill", "a", False, -1), ("at", "c"), ("on", "bc", "b", True, -2)), 0),
    "10 dry 0,9 down down at:a 2": (10, "dry", (0, 9), (("down",), ("down",), ("at", "a")), 2),
}
# What stands next to the signs of a text, or instead of them.
SIGNS = " \n\t:,-/019axyn+_\u0663"


def changed(text):
    """The texts that come of one with a sign taken out, added or changed."""
    found = set()
    for place in range(len(text) + 1):
        found.add(text[:place] + text[place + 1:])
        for sign in SIGNS:
            found.add(text[:place] + sign + text[place:])
            found.add(text[:place] + sign + text[place + 1:])
    return sorted(found - {text})


class WordCase(unittest.TestCase):
    def bad(self, function, *things):
        before = copy.deepcopy(things[:-1])
        with self.assertRaises(BadText) as caught:
            function(*things)
        self.assertEqual((caught.exception.line, caught.exception.column), (1, 1), things[-1])
        self.assertEqual(things[:-1], before)

    def good_or_bad(self, wanted, function, *things):
        """What is read by a text: what has just this text, and nothing where wanted is None."""
        if wanted is None:
            self.bad(function, *things)
        else:
            told = function(*things)
            self.assertEqual((told, repr(told)), (wanted, repr(wanted)))


class Standings(WordCase):
    def test_to_the_sign(self):
        for text, standing in STANDINGS.items():
            before = copy.deepcopy(standing)
            self.assertEqual(standing_text(standing), text)
            self.assertEqual(standing, before)
            self.good_or_bad(standing, standing_by, CITY, SKY, text)

    def test_without_streets(self):
        city, sky = empty_town(9), clear_sky(2)
        standing = (8, "s1", (), (("at", "a"),), 0)
        self.assertEqual(standing_text(standing), "8 s1 - at:a 0")
        self.good_or_bad(standing, standing_by, city, sky, "8 s1 - at:a 0")
        for text in ("8 s1  at:a 0", "8 s1 0 at:a 0", "8 s1 -,- at:a 0", "8 s1 , at:a 0", "8 s1 at:a 0", "8 s1 -0 at:a 0"):
            self.bad(standing_by, city, sky, text)
        self.bad(standing_by, TOWN, FAIR, "0 dry - at:a 0")

    def test_all_standings_of_a_town(self):
        for city, sky in ((TOWN, FAIR), (TOWN[:3] + ((2, 3, 1),), FAIR), (PAIR[:2] + (PAIR[2], (1, 0, 2)), FAIR)):
            standings = slow.formed(city, sky)
            texts = {standing_text(standing): standing for standing in standings}
            self.assertEqual(len(texts), len(standings))
            for text, standing in texts.items():
                self.good_or_bad(standing, standing_by, city, sky, text)

    def test_a_sign_taken_out_added_or_changed(self):
        # What one sign leads to may be another standing, but it has just its text.
        known = {standing_text(standing): standing for standing in slow.formed(TOWN, FAIR)}
        others = 0
        for text in list(known)[::5]:
            for other in changed(text):
                others += other in known
                self.good_or_bad(known.get(other), standing_by, TOWN, FAIR, other)
        self.assertGreater(others, 10)

    def test_a_sign_changed_in_longer_texts(self):
        for text in STANDINGS:
            for other in changed(text):
                try:
                    told = standing_by(CITY, SKY, other)
                except BadText as error:
                    self.assertEqual((error.line, error.column), (1, 1))
                    continue
                self.assertEqual(standing_text(told), other)
                self.assertTrue(self.is_formed(told), other)

    def is_formed(self, standing):
        """Whether a standing of CITY is formed as such, told a second time."""
        time, state, snow, ploughs, fallen = standing
        good = 0 <= time < 12 and state in ("dry", "wet1") and len(snow) == 2 and 0 <= snow[0] <= 2 and 0 <= snow[1] <= 10
        good = good and len(ploughs) == 3 and fallen == ploughs.count(("down",)) <= 2
        for plough in ploughs:
            if plough[0] == "at":
                good = good and plough[1:] in (("a",), ("b",), ("c",))
            elif plough[0] == "on":
                _, street, to, is_work, left = plough
                good = good and to in {"hill": "ab", "bc": "bc"}[street]
                good = good and -2 <= left < ({"hill": 12, "bc": 1} if is_work else {"hill": 2, "bc": 1})[street]
            else:
                good = good and plough == ("down",)
        return good

    def test_blanks_and_line_feeds(self):
        for text in STANDINGS:
            for other in (" " + text, text + " ", text.replace(" ", "  "), text + "\n", "\n" + text, text.replace(" ", "\n"), text.replace(" ", "\t"),
                          text.replace(" ", "  ", 1), text.upper(), text + " 0", "0 " + text, text + "\r"):
                self.bad(standing_by, CITY, SKY, other)

    def test_needless_figures(self):
        for old, new in (("0 dry", "00 dry"), ("0 dry", "-0 dry"), ("0 dry", "+0 dry"), ("0,0", "00,0"), ("0,0", "0,-0"), ("0,0", "0,0_0"), ("0,0", "0,\u0660")):
            self.bad(standing_by, CITY, SKY, "0 dry 0,0 at:a at:b at:c 0".replace(old, new))
        text = "3 dry 1,0 on:hill:a:pass:-1 at:c on:bc:b:work:-2 0"
        for old, new in ((":-1", ":-01"), (":-1", ":--1"), (":-2", ":- 2"), (":-2", ":-2 "), ("0", "00"), (":-1", ":+1"), (":-2", ":-\u0662")):
            self.bad(standing_by, CITY, SKY, text.replace(old, new, 1))

    def test_what_can_not_be(self):
        text = "11 wet1 2,10 on:hill:b:work:11 on:bc:c:pass:0 down 1"
        for old, new in (
            ("11 wet1", "12 wet1"), ("11 wet1", "-1 wet1"), ("wet1", "wet"), ("2,10", "3,10"), ("2,10", "2,11"), ("2,10", "2"), ("2,10", "2,1,0"),
            ("2,10", "-"), ("2,10", "2,-1"), ("work:11", "work:12"), ("work:11", "pass:11"), ("work:11", "work:-3"), ("pass:0", "pass:1"),
            ("pass:0", "pass:-3"), ("hill:b", "hill:c"), ("on:bc:c", "on:bc:a"), ("on:bc", "on:cd"), ("on:bc", "at:bc"), ("down", "down:"),
            ("down", "at:d"), ("down", "at"), ("down", "at:"), ("down", "down down"), (" down", ""), ("down 1", "down 0"), ("down 1", "down 2"),
            ("down 1", "at:a 1"), ("work", "true"), ("work", "True"), ("work", ""), ("work:", ""), ("on:bc:c:pass:0", "down"),
            ("on:bc", "on::bc"), ("2,10", "2,,10"), ("2,10", "2,10,"), ("2,10", ""), ("work:11", "work:"), ("work:11", "work:x"),
        ):
            self.assertIn(old, text)
            self.bad(standing_by, CITY, SKY, text.replace(old, new))

    def test_standings_of_another_city(self):
        for text in STANDINGS:
            self.bad(standing_by, TOWN, FAIR, text)
            self.bad(standing_by, CITY, FAIR, text.replace("dry", "fog").replace("wet1", "fog"))
        self.bad(standing_by, CITY, SKY, "0 dry 0 at:a 0")
        for (city, sky), (other, other_sky) in itertools.pairwise(small_worlds(30)):
            text = standing_text(beginning(city, sky))
            start = beginning(other, other_sky)
            wanted = start if standing_text(start) == text else None
            if wanted is None and len(city[2]) != len(other[2]):
                self.bad(standing_by, other, other_sky, text)

    def test_other_things(self):
        for thing in OTHER_THINGS:
            self.bad(standing_by, TOWN, FAIR, thing)
        self.bad(standing_by, TOWN, FAIR, b"0 dry 0 at:a 0")
        self.bad(standing_by, TOWN, FAIR, ["0", "dry", "0", "at:a", "0"])
        self.bad(standing_by, TOWN, FAIR, beginning(TOWN, FAIR))
        for text in ("", " ", "    ", "\n", "0", "0 dry", "0 dry 0", "0 dry 0 0", "9" * 6000, "0 dry " + "9" * 6000 + " at:a 0"):
            self.bad(standing_by, TOWN, FAIR, text)


class Orders(WordCase):
    def test_to_the_sign(self):
        for orders, text in (
            ((None,), "-"), ((("hill", True),), "hill:work"), ((("hill", False),), "hill:pass"), ((None, None), "- -"),
            ((("hill", True), None, ("bc", False)), "hill:work - bc:pass"), ((None, ("a1", True)), "- a1:work"),
        ):
            self.assertEqual(orders_text(orders), text)

    def test_all_orders_are_read_back(self):
        for city, sky in [(CITY, SKY), (TOWN, FAIR), (PAIR, FAIR)] + small_worlds(30):
            standing = beginning(city, sky)
            for _ in range(5):
                all_orders = orders_of(city, standing)
                texts = [orders_text(orders) for orders in all_orders]
                self.assertEqual(len(set(texts)), len(texts))
                for orders, text in zip(all_orders, texts):
                    self.good_or_bad(orders, orders_by, city, standing, text)
                standing = follow(city, sky, standing, all_orders[-1], answers_of(city, sky, standing, all_orders[-1])[-1])

    def test_a_sign_taken_out_added_or_changed(self):
        for city, standing in (
            (CITY, STANDINGS["0 dry 0,0 at:a at:b at:c 0"]), (CITY, STANDINGS["3 dry 1,0 on:hill:a:pass:-1 at:c on:bc:b:work:-2 0"]),
            (TOWN, beginning(TOWN, FAIR)),
        ):
            known = {orders_text(orders): orders for orders in orders_of(city, standing)}
            for text in list(known)[::3]:
                for other in changed(text):
                    self.good_or_bad(known.get(other), orders_by, city, standing, other)

    def test_orders_that_can_not_be_given(self):
        start = STANDINGS["0 dry 0,0 at:a at:b at:c 0"]
        for text in (
            "bc:work - -", "- - hill:pass", "hill:work", "- -", "- - - -", "hill - -", "hill: - -", "hill:Work - -", "hill:work:work - -",
            "hill:works - -", ":work - -", "hill:True - -", "nowhere:work - -", "None - -", "-- - -", "-:work - -", "hill:- - -",
        ):
            self.bad(orders_by, CITY, start, text)
        riding = STANDINGS["11 wet1 2,10 on:hill:b:work:11 on:bc:c:pass:0 down 1"]
        for text in ("hill:work - -", "- bc:pass -", "- - hill:work", "- - bc:pass"):
            self.bad(orders_by, CITY, riding, text)
        self.good_or_bad((None, None, None), orders_by, CITY, riding, "- - -")

    def test_blanks_and_line_feeds(self):
        start = STANDINGS["0 dry 0,0 at:a at:b at:c 0"]
        text = "hill:work - bc:pass"
        self.good_or_bad((("hill", True), None, ("bc", False)), orders_by, CITY, start, text)
        for other in (" " + text, text + " ", text.replace(" ", "  "), text + "\n", "\n" + text, text.replace(" ", "\t"), text.replace(" ", "\n")):
            self.bad(orders_by, CITY, start, other)

    def test_other_things(self):
        for thing in OTHER_THINGS:
            self.bad(orders_by, TOWN, beginning(TOWN, FAIR), thing)
        for thing in (b"-", ["-"], ("-",), (None,), "", " ", "\n"):
            self.bad(orders_by, TOWN, beginning(TOWN, FAIR), thing)


class Answers(WordCase):
    START = STANDINGS["0 dry 0,0 at:a at:b at:c 0"]
    ORDERS = (("hill", False), ("bc", True), None)

    def test_to_the_sign(self):
        for answer, text in (
            ((0, (False,), None), "0 n -"), ((0, (True,), None), "0 y -"), ((11, (True, False), 0), "11 yn 0"),
            ((2, (False, True, True, False), 3), "2 nyyn 3"),
        ):
            self.assertEqual(answer_text(answer), text)

    def test_all_answers_are_read_back(self):
        for city, sky in [(CITY, SKY), (TOWN, FAIR), (PAIR, FAIR)] + small_worlds(30):
            standing = beginning(city, sky)
            for turn in range(6):
                all_orders = orders_of(city, standing)
                for orders in (all_orders[0], all_orders[-1], all_orders[turn % len(all_orders)]):
                    answers = answers_of(city, sky, standing, orders)
                    texts = [answer_text(answer) for answer in answers]
                    self.assertEqual(len(set(texts)), len(texts))
                    for answer, text in zip(answers, texts):
                        self.good_or_bad(answer, answer_by, city, sky, standing, orders, text)
                standing = follow(city, sky, standing, all_orders[-1], answers_of(city, sky, standing, all_orders[-1])[-1])

    def test_a_sign_taken_out_added_or_changed(self):
        late = STANDINGS["3 dry 1,0 on:hill:a:pass:-1 at:c on:bc:b:work:-2 0"]
        wet = STANDINGS["11 wet1 2,10 on:hill:b:work:11 on:bc:c:pass:0 down 1"]
        for standing, orders in ((self.START, self.ORDERS), (late, (None, ("bc", True), None)), (wet, (None, None, None))):
            known = {answer_text(answer): answer for answer in answers_of(CITY, SKY, standing, orders)}
            for text in list(known)[::5]:
                for other in changed(text):
                    self.good_or_bad(known.get(other), answer_by, CITY, SKY, standing, orders, other)

    def test_answers_that_can_not_be(self):
        self.good_or_bad((1, (False, True, False), 2), answer_by, CITY, SKY, self.START, self.ORDERS, "1 nyn 2")
        for text in (
            "2 nyn -", "-1 nyn -", "0 yyn -", "0 nyy -", "0 ny -", "0 nynn -", "0 nyn 3", "0 nyn -1", "0 nyn x", "00 nyn -", "0 nyn 00", "0 NYN -",
            "0 n y n -", "0 nyn", "nyn -", "0 -", "0 nyn - -", "0 nyn None", "0 nyx -", "0 101 -", "a nyn -", "0  -", "0 nyn ", "+0 nyn -",
        ):
            self.bad(answer_by, CITY, SKY, self.START, self.ORDERS, text)
        down = STANDINGS["10 dry 0,9 down down at:a 2"]
        self.bad(answer_by, CITY, SKY, down, (None, None, None), "0 nnn 2")
        self.good_or_bad((0, (False,) * 3, None), answer_by, CITY, SKY, down, (None, None, None), "0 nnn -")
        one_down = STANDINGS["11 wet1 2,10 on:hill:b:work:11 on:bc:c:pass:0 down 1"]
        self.bad(answer_by, CITY, SKY, one_down, (None, None, None), "0 nyn 2")
        self.good_or_bad((11, (False, True, False), 1), answer_by, CITY, SKY, one_down, (None, None, None), "11 nyn 1")
        self.bad(answer_by, CITY, SKY, one_down, (None, None, None), "12 nyn 1")
        must = STANDINGS["3 dry 1,0 on:hill:a:pass:-1 at:c on:bc:b:work:-2 0"]
        for text, wanted in (("0 nny -", (0, (False, False, True), None)), ("0 nnn -", None), ("0 yny -", (0, (True, False, True), None))):
            self.good_or_bad(wanted, answer_by, CITY, SKY, must, (None, None, None), text)

    def test_blanks_and_line_feeds(self):
        for other in (" 1 nyn 2", "1 nyn 2 ", "1  nyn 2", "1 nyn  2", "1 nyn 2\n", "\n1 nyn 2", "1\nnyn 2", "1\tnyn\t2"):
            self.bad(answer_by, CITY, SKY, self.START, self.ORDERS, other)

    def test_orders_that_can_not_be_given(self):
        for orders in (None, (), (None,), (("bc", True), None, None), (("hill", 1), None, None), [None, None, None]):
            self.bad(answer_by, CITY, SKY, self.START, orders, "0 nnn -")

    def test_other_things(self):
        for thing in OTHER_THINGS:
            self.bad(answer_by, CITY, SKY, self.START, self.ORDERS, thing)
        for thing in (b"1 nyn 2", ["1", "nyn", "2"], (1, (False, True, False), 2), "", "  ", "9" * 6000 + " nyn -"):
            self.bad(answer_by, CITY, SKY, self.START, self.ORDERS, thing)


if __name__ == "__main__":
    unittest.main()
