"""[26] The shell."""

import random
import unittest

from snowsure.cards import fewest_facts
from snowsure.citytexts import city_text
from snowsure.costs import dearest
from snowsure.desks import Desk, departures
from snowsure.errors import BadCity, BadSky, BadText, TooMany
from snowsure.games import verdict
from snowsure.promises import promised
from snowsure.shell import run_script
from snowsure.standingtexts import answer_text, orders_text, standing_text
from tests import slow
from tests.samples import FAIR, KEPT, OTHER_THINGS, PAIR, STORM, TOWN, WORSE, clear_sky, kept_worlds, quiet_town

TEXT = "day 3 late 0 falls 0\njunction a\njunction b\nstreet hill a b 1 1 2 0-3\nplough ann a\nsky s\narc s s hill"
# How many lines the city and go take.
MANY = 8
HARD = city_text(WORSE, FAIR)
MILD = city_text(TOWN, FAIR)


def brings(*lines, text=TEXT):
    return run_script("\n".join([text, "go", *lines]))


class ShellCase(unittest.TestCase):
    def brings(self, wanted, *lines, text=TEXT):
        told = brings(*lines, text=text)
        self.assertIsInstance(told, list)
        self.assertEqual(told, wanted)
        self.assertEqual(brings(*lines, text=text), wanted)

    def wrong(self, line, column, script):
        with self.assertRaises(BadText) as caught:
            run_script(script)
        self.assertEqual((caught.exception.line, caught.exception.column), (line, column), repr(script))

    def wrong_line(self, column, line, *ahead):
        """A line is wrong at a column, behind some that are right."""
        self.wrong(MANY + 1 + len(ahead), column, "\n".join([TEXT, "go", *ahead, line]))
        self.wrong(MANY + 1 + len(ahead), column, "\n".join([TEXT, "go", *ahead, line, "now", "nonsense"]))


class Scripts(ShellCase):
    def test_the_example(self):
        told = run_script(TEXT + "\ngo\nnow\nclosed\ntick hill:work / 0 y -\nnow\nfall 3")
        self.assertEqual(told, ["0 s 0 at:a 0", "closed", "at 1", "1 s 1 at:b 0", "at 0"])

    def test_nothing_behind_go(self):
        self.assertEqual(run_script(TEXT + "\ngo"), [])
        self.assertEqual(run_script(TEXT + "\ngo\n"), [])
        self.assertEqual(run_script(TEXT + "\n\n# that is the town\n\ngo\n\n   \n# and no more\n"), [])

    def test_lines_without_words(self):
        self.brings(["0 s 0 at:a 0", "closed"], "", "   ", "# now", "now", "", "  #closed", "closed # the end")
        self.brings(["0 s 0 at:a 0"], "  now  ")

    def test_no_go(self):
        self.wrong(1, 1, "")
        self.wrong(1, 5, "gone")
        self.wrong(7, 13, TEXT)
        self.wrong(8, 1, TEXT + "\n")
        self.wrong(8, 4, TEXT + "\n   ")
        self.wrong(8, 7, TEXT + "\n# noon")
        self.wrong(9, 4, TEXT + "\ngone\nnow")
        self.wrong(1, 12, "nonsense ##")
        self.wrong(8, 5, TEXT + "\n# go")
        self.wrong(8, 7, TEXT + "\nnow go")
        self.wrong(8, 7, TEXT + "\ngo now")
        self.wrong(8, 3, TEXT + "\nGo")

    def test_no_string(self):
        for thing in OTHER_THINGS + ([TEXT, "go"], (TEXT + "\ngo",), b"go"):
            if not isinstance(thing, str):
                self.wrong(0, 0, thing)

    def test_go_and_what_does_not_count(self):
        self.assertEqual(run_script(TEXT + "\n  go  \nnow"), ["0 s 0 at:a 0"])
        self.assertEqual(run_script(TEXT + "\ngo # now\nclosed"), ["closed"])
        self.assertEqual(run_script(TEXT + "\ngo#\nclosed"), ["closed"])
        self.assertEqual(run_script(TEXT + "\n#go\ngo\nclosed"), ["closed"])

    def test_go_and_something_more(self):
        # It is a line of the city then, and wrong there.
        self.wrong(8, 1, TEXT + "\ngo now\ngo\nnow")
        self.wrong(8, 3, TEXT + "\n  go go\ngo\nnow")

    def test_two(self):
        self.wrong(9, 1, TEXT + "\ngo\ngo")
        self.wrong(10, 3, TEXT + "\ngo\nnow\n  go # on")

    def test_the_city_first(self):
        self.wrong(1, 1, "go\nnow")
        self.wrong(2, 1, "day 3 late 0 falls 0\nnonsense\nsky s\ngo\nnow\nnonsense")
        self.wrong(1, 5, "day x\ngo\nnonsense")
        self.wrong(2, 11, "sky s\njunction a\ngo\nnow")
        self.wrong(3, 1, "sky s\njunction a\n\ngo\nnow")
        self.wrong(1, 6, "day 3\ngo")
        with self.assertRaises(BadCity):
            run_script(TEXT.replace("plough ann a", "plough ann c") + "\ngo\nnonsense")
        with self.assertRaises(BadSky):
            run_script(TEXT.replace("sky s", "sky t") + "\ngo\nnonsense")

    def test_then_what_verdict_raises(self):
        city, sky = quiet_town(60, 10, 1), clear_sky(10)
        with self.assertRaises(TooMany) as caught:
            run_script(city_text(city, sky) + "\ngo\nnonsense")
        self.assertEqual(caught.exception.most, 1000)
        with self.assertRaises(TooMany):
            run_script(city_text(city, sky) + "\ngo")
        # Without go it isn't read.
        with self.assertRaises(BadText):
            run_script(city_text(city, sky))


class Words(ShellCase):
    def test_unknown_lines(self):
        for line, column in (("nonsense", 1), ("  Now", 3), ("now.", 1), ("/", 1), ("0", 1), ("ticks a / b", 1), ("day 3 late 0 falls 0", 1), ("-", 1), ("tick/", 1),
                             ("\tnow", 1), ("junction c", 1), ("plans # 1", 1), ("SETTLE", 1)):
            self.wrong_line(column, line)
            self.wrong_line(column, line, "now", "", "# remark", "tick - / 0 n -")

    def test_words_too_many(self):
        for word in ("verdict", "now", "closed", "plan", "may", "settle", "strayed", "cost"):
            self.wrong_line(len(word) + 2, f"{word} {word}")
            self.wrong_line(len(word) + 6, f"  {word}   x y # z", "now")
            self.wrong_line(len(word) + 2, f"{word} 0")
            self.wrong_line(len(word) + 2, f"{word} /")
        self.wrong_line(8, "fall 3 3")
        self.wrong_line(14, "promise hill hill")
        self.wrong_line(11, "card  ann ann")
        # The first one that can't stand there.
        self.wrong_line(9, "promise moon hill")

    def test_words_that_lack(self):
        for word in ("fall", "promise", "card"):
            self.wrong_line(len(word) + 1, word)
            self.wrong_line(len(word) + 4, f" {word}  # 3")
            self.wrong_line(len(word) + 3, f"{word}  ", "now")
            self.wrong_line(len(word) + 1, f"{word}#ann")

    def test_streets_and_ploughs_of_the_city(self):
        for word in ("moon", "ann", "a", "s", "0", "Hill", "hills", "/", "-"):
            self.wrong_line(9, f"promise {word}")
            self.wrong_line(11, f"promise   {word}", "now")
        for word in ("moon", "hill", "a", "s", "0", "Ann", "anna", "bob"):
            self.wrong_line(6, f"card {word}")

    def test_numbers(self):
        for word in ("x", "-1", "00", "01", "+1", "1.0", "1000000", "0x1", "1_0", "ann"):
            self.wrong_line(6, f"fall {word}")
        self.brings(["at 0"] * 4, "fall 0", "fall 1", "fall 999999", " fall  10 # signs")

    def test_a_tick_has_a_stroke(self):
        for line, column in (
            ("tick", 5), ("tick  ", 7), ("tick hill:work 0 y -", 21), ("tick hill:work/0 y -", 21), ("  tick # hill:work / 0 y -", 8), ("tick - 0 n - //", 16),
            ("tick hill:work # / 0 y -", 16), ("tick#/", 5), ("tick hill:work 0 y - # /", 22),
        ):
            self.wrong_line(column, line)
            self.wrong_line(column, line, "now", "tick - / 0 n -")

    def test_when_a_lines_turn_comes(self):
        self.wrong_line(1, "nonsense", "verdict", "plan", "may", "tick hill:work / 0 y -", "settle", "fall 3", "strayed", "promise hill", "card ann", "cost")
        self.wrong(10, 6, TEXT + "\ngo\nnow\nfall x\nnonsense\npromise moon")
        self.wrong(9, 1, TEXT + "\ngo\nnonsense\nfall x")
        self.wrong(12, 4, "\n\n\n" + TEXT + "\ngo\n   x")


class Asked(ShellCase):
    def test_verdict(self):
        self.brings([f"promised {len(verdict(KEPT, STORM)[1])}"], "verdict")
        self.brings([f"promised {len(verdict(TOWN, FAIR)[1])}"], "verdict", text=MILD)
        self.brings([f"beaten {len(verdict(WORSE, FAIR)[1])}"], "verdict", text=HARD)
        self.assertGreater(len(verdict(WORSE, FAIR)[1]), 1)

    def test_now(self):
        self.brings(["0 s 0 at:a 0", "at 1", "1 s 1 at:b 0"], "now", "tick hill:work / 0 y -", "now")
        self.brings(["0 dry 0 at:a 0", "at 1", "1 wet 1 on:hill:b:work:0 0"], "now", "tick hill:work / 1 n -", "now", text=MILD)

    def test_closed(self):
        idle = ["tick - / 0 n -"] * 3
        self.brings(["closed", "at 1", "at 2", "at 3", "closed hill", "at 4", "closed hill"], "closed", *idle, "closed", idle[0], "closed")
        two = TEXT.replace("plough", "street side a b 1 1 0 0-1\nplough").replace("arc s s hill", "arc s s side hill")
        self.brings(["at 1", "closed", "at 2", "closed", "at 3", "closed hill side"], idle[0], "closed", idle[0], "closed", idle[0], "closed", text=two)

    def test_plan_and_may(self):
        for city, sky in ((KEPT, STORM), (TOWN, FAIR)):
            rule = verdict(city, sky)[1]
            first = slow.start(city, sky)
            plan = "plan " + orders_text(rule[first])
            answers = slow.answers(city, sky, first, rule[first])
            may = ["may " + answer_text(answer) for answer in answers]
            self.brings([plan, *may], "plan", "may", text=city_text(city, sky))
            for answer in answers:
                behind = slow.behind(city, sky, first, rule[first], answer)
                then = ["may " + answer_text(other) for other in slow.answers(city, sky, behind, rule[behind])]
                tick = f"tick {orders_text(rule[first])} / {answer_text(answer)}"
                self.brings(["at 1", "plan " + orders_text(rule[behind]), *then], tick, "plan", "may", text=city_text(city, sky))

    def test_no_plan(self):
        asked = ("plan", "may", "promise hill", "card ann")
        self.brings(["no plan"] * 4, *asked, text=HARD)
        # Where the rule doesn't come to, it has no orders.
        idle = ["tick - / 0 n -"] * 3
        self.brings(["at 1", "at 2", "at 3", *["no plan"] * 4], *idle, *asked)
        self.assertNotIn((0, "s", (3,), (("at", "a"),), 0), verdict(KEPT, STORM)[1])

    def test_strayed(self):
        rule = verdict(KEPT, STORM)[1]
        self.brings(["strayed"], "strayed")
        self.brings(["strayed"], "strayed", text=HARD)
        for orders in ("-", "hill:work", "hill:pass"):
            tick = f"tick {orders} / 0 {'n' if orders == '-' else 'y'} -"
            right = orders == orders_text(rule[slow.start(KEPT, STORM)])
            self.brings(["at 1", "strayed" if right else "strayed 0"], tick, "strayed")
        # All ticks without a rule.
        ticks = ["tick - / 0 n -"] * 12
        told = [f"at {number + 1}" for number in range(12)]
        self.brings([*told, "strayed 0 1 2 3 4 5 6 7 8 9 10 11"], *ticks, "strayed", text=HARD)

    def test_promise(self):
        for city, sky in ((KEPT, STORM), (TOWN, FAIR)):
            rule = verdict(city, sky)[1]
            ticks = promised(city, sky, rule, slow.start(city, sky), "hill")
            self.brings([f"promise hill {'never' if ticks is None else ticks}"], "promise hill", text=city_text(city, sky))
        self.assertIsNotNone(promised(KEPT, STORM, verdict(KEPT, STORM)[1], slow.start(KEPT, STORM), "hill"))
        side = TEXT.replace("plough", "street side a b 1 1 9\nplough")
        told = brings("promise hill", "promise side", text=side)
        self.assertEqual([line.split(" ")[:2] for line in told], [["promise", "hill"], ["promise", "side"]])
        self.assertIn("promise side never", told)

    def test_promises_change_as_ticks_go_by(self):
        rule = verdict(KEPT, STORM)[1]
        standing = slow.start(KEPT, STORM)
        lines, wanted = [], []
        for number in range(9):
            (answer,) = slow.answers(KEPT, STORM, standing, rule[standing])
            lines += ["promise hill", f"tick {orders_text(rule[standing])} / {answer_text(answer)}"]
            wanted += [f"promise hill {promised(KEPT, STORM, rule, standing, 'hill')}", f"at {number + 1}"]
            standing = slow.behind(KEPT, STORM, standing, rule[standing], answer)
        self.assertGreater(len(set(wanted[::2])), 1)
        self.brings(wanted, *lines)

    def test_card(self):
        told = brings("card ann")[0].split(" ")
        self.assertEqual(told[:2], ["card", "ann"])
        words = set()
        for city, sky, _ in kept_worlds(60):
            rule = verdict(city, sky)[1]
            lines, wanted = [], []
            for number, (name, _) in enumerate(city[2]):
                lines.append(f"card {name}")
                told = ["card", name]
                for fact in fewest_facts(city, sky, rule, number)[0][0]:
                    if fact[0] == "snow":
                        told.append("snow:" + city[1][fact[1]][0])
                    elif fact[0] == "plough":
                        told.append("plough:" + city[2][fact[1]][0])
                    else:
                        told.append(fact[0])
                words |= set(told[2:])
                wanted.append(" ".join(told))
            self.brings(wanted, *lines, text=city_text(city, sky))
        self.assertLessEqual({"time", "state", "snow:s0"}, words)
        # Nothing has to be told for a rule that is idle.
        self.brings(["card ann"], "card ann", text=TEXT.replace("hill a b 1 1 2 0-3", "hill a b 1 1 2"))

    def test_card_with_another_plough(self):
        # It snows once the first tick is over: who ploughs has to be told where the other one is, or the sky's state.
        city = (("a", "b"), (("hill", "a", "b", 1, 2, 1, ((0, 1),)),), (("ann", "a"), ("bob", "b")), (1, 0, 0))
        sky = ("x", (("x", (("y", ()),)), ("y", (("y", ("hill",)),))))
        rule = verdict(city, sky)[1]
        wanted = []
        for number, (name, other) in enumerate((("ann", "bob"), ("bob", "ann"))):
            names = {("snow", 0): "snow:hill", ("plough", 1 - number): f"plough:{other}"}
            facts = fewest_facts(city, sky, rule, number)[0][0]
            wanted.append(" ".join(["card", name, *[names.get(fact, fact[0]) for fact in facts]]))
        self.brings(wanted, "card ann", "card bob", text=city_text(city, sky))
        self.assertIn("card ann plough:bob", wanted)

    def test_cost(self):
        self.brings(["no rule"], "cost", text=HARD)
        self.brings(["no rule", "at 1", "no rule"], "cost", "tick - / 0 n -", "cost", text=HARD)
        for city, sky, _ in kept_worlds(30):
            (a, b), _, _ = dearest(city, sky, verdict(city, sky)[1])
            self.brings([f"cost {a}/{b}"], "cost", text=city_text(city, sky))
        # It is the rule's, wherever the desk has strayed to.
        self.brings(["cost 0/1", "at 1", "at 2", "at 3", "no plan", "cost 0/1"], "cost", *["tick - / 0 n -"] * 3, "plan", "cost")

    def test_which_rule_is_the_same(self):
        for city, sky, _ in kept_worlds(15):
            rule = verdict(city, sky)[1]
            told = brings("verdict", "plan", "may", text=city_text(city, sky))
            first = slow.start(city, sky)
            self.assertEqual(told[:2], [f"promised {len(rule)}", f"plan {orders_text(rule[first])}"])
            self.assertEqual(len(told) - 2, len(slow.answers(city, sky, first, rule[first])))


class Done(ShellCase):
    def test_ticks(self):
        self.brings(["at 1", "at 2", "at 3"], "tick hill:work / 0 y -", "tick hill:pass / 0 y -", "tick - / 0 n -")
        self.brings(["at 1", "1 s 1 at:b 0"], "  tick   hill:work  /   0  y   - # so it was", "now")

    def test_a_tick_of_two_ploughs(self):
        text = city_text(PAIR, FAIR)
        told = brings("tick hill:work - / 1 nn 1", "now", "tick - - / 0 yn -", "now", "tick - - / 0 nn 0", text=text)
        self.assertEqual(told, ["at 1", "1 wet 1 on:hill:b:work:0 down 1", "at 2", "2 dry 0 at:b down 1", "no tick"])

    def test_no_tick(self):
        for line in (
            "tick /", "tick / /", "tick hill:work /", "tick / 0 y -", "tick hill:work / 0 n -", "tick hill:work / 1 y -", "tick hill:work / 0 y 0", "tick - / 0 y -",
            "tick moon:work / 0 y -", "tick hill / 0 y -", "tick hill:work - / 0 y -", "tick hill:work / 0 y", "tick hill:work / 0 y - 0", "tick hill:work / 0 y - /",
            "tick hill:work / / 0 y -", "tick 0 y - / hill:work", "tick hill:work / 00 y -", "tick now / now", "tick hill:drive / 0 y -", "tick / hill:work / 0 y -",
        ):
            self.brings(["no tick"], line)
            self.brings(["at 1", "no tick", "1 s 1 at:b 0", "at 2"], "tick hill:work / 0 y -", line.replace("0 y", "9 y"), "now", "tick - / 0 n -")

    def test_settle(self):
        self.brings(["settled 0"], "settle")
        self.brings(["at 1", "at 2", "settled 2", "at 3", "settled 3", "settled 3"],
                    *["tick - / 0 n -"] * 2, "settle", "tick - / 0 n -", "settle", "settle")

    def test_fall(self):
        # A line of this tick has 14 signs, its line feed among them.
        tick = "tick - / 0 n -"
        line = "0 - / 0 n - 0\n"
        self.assertEqual(len(line), 14)
        for many in range(40):
            self.brings(["at 1", "at 2", f"at {min(many // 14, 2)}"], tick, tick, f"fall {many}")
            self.brings(["at 1", "settled 1", "at 2", f"at {min(many // 14, 1) + 1}"], tick, "settle", tick, f"fall {many}")

    def test_what_a_fall_left_is_settled(self):
        tick = "tick - / 0 n -"
        self.brings(["at 1", "at 2", "at 1", "at 1", "1 s 1 at:a 0", "at 2", "at 1"], tick, tick, "fall 14", "fall 0", "now", tick, "fall 0")
        self.brings(["at 1", "at 0", "0 s 0 at:a 0", "at 1"], tick, "fall 0", "now", tick)

    def test_fall_with_more_signs_than_are_loose(self):
        tick = "tick - / 0 n -"
        self.brings(["at 1", "at 1", "at 2", "at 2"], tick, "fall 15", tick, "fall 999999")
        self.brings(["at 0"], "fall 3")

    def test_in_turns(self):
        rng = random.Random(26)
        for city, sky, _ in kept_worlds(25):
            rule = verdict(city, sky)[1]
            desk = Desk(city, sky, "")
            lines, wanted = [], []
            for _ in range(40):
                kind = rng.randrange(8)
                if kind < 4:
                    orders = rng.choice(slow.orders(city, desk.standing))
                    answer = rng.choice(slow.answers(city, sky, desk.standing, orders))
                    lines.append(f"tick {orders_text(orders)} / {answer_text(answer)}")
                    desk.write(orders, answer)
                    wanted.append(f"at {len(desk.ticks)}")
                elif kind == 4:
                    lines.append("settle")
                    desk.settle()
                    wanted.append(f"settled {len(desk.ticks)}")
                elif kind == 5:
                    many = rng.randrange(60)
                    lines.append(f"fall {many}")
                    desk = Desk(city, sky, desk.fallen(min(many, len(desk.loose))))
                    wanted.append(f"at {len(desk.ticks)}")
                elif kind == 6:
                    lines += ["now", "closed"]
                    wanted += [standing_text(desk.standing), " ".join(["closed", *slow.closed(city, desk.standing)])]
                else:
                    lines += ["strayed", "plan"]
                    wanted.append(" ".join(["strayed", *map(str, departures(desk, rule))]))
                    wanted.append("plan " + orders_text(rule[desk.standing]) if desk.standing in rule else "no plan")
            self.brings(wanted, *lines, text=city_text(city, sky))

    def test_by_the_plan_nothing_is_ever_closed(self):
        rng = random.Random(27)
        for city, sky, _ in kept_worlds(8):
            lines = []
            for _ in range(12):
                told = brings(*lines, "plan", "may", "closed", text=city_text(city, sky))[len(lines):]
                self.assertEqual(told[-1], "closed")
                plan, may = told[0], rng.choice(told[1:-1])
                lines.append(f"tick {plan[5:]} / {may[4:]}")
            self.assertEqual(brings(*lines, "strayed", text=city_text(city, sky))[-1], "strayed")


if __name__ == "__main__":
    unittest.main()
