"""[13] Cities as texts."""

import copy
import itertools
import unittest

from snowsure.cities import check_city, check_sky, is_city, is_sky
from snowsure.citytexts import city_text, read_city
from snowsure.errors import BadCity, BadSky, BadText
from tests.samples import FAIR, OTHER_THINGS, PAIR, RING, TOWN, clear_sky, empty_town, quiet_town, small_worlds

HILL = ("hill", "a", "b", 1, 1, 2, ((0, 3),))
CITY = (("a", "b"), (HILL,), (("ann", "a"),), (3, 0, 0))
SKY = ("s", (("s", (("s", ("hill",)),)),))
LINES = [
    "day 3 late 0 falls 0", "junction a", "junction b", "street hill a b 1 1 2 0-3", "plough ann a", "sky s", "arc s s hill",
]
TEXT = "\n".join(LINES)

# A word that can stand, for each place of each kind of line, and what can stand behind.
KINDS = {
    "day": ["3", "late", "0", "falls", "0"],
    "junction": ["a"],
    "street": ["hill", "a", "b", "1", "1", "2"],
    "plough": ["ann", "a"],
    "sky": ["s"],
    "arc": ["s", "s"],
}
NO_NAMES = ("A", "1a", "abcdefghi", "a-b", "a_b", "aB", "-", "3", "0-3", "a\tb", "\t", "a\r", "\u00e9", "a:b", "\u0663", "a,")
NO_NUMBERS = ("a", "-1", "+1", "1000000", "0000001", "00", "01", "007", "1.0", "1_0", "0x1", "1-2", "\u0663", "1\t", "1e3", ",1", "-")
NO_HOURS = ("0", "0-", "-3", "-", "0--3", "0-3-", "0-3-5", "00-3", "0-03", "a-3", "0-b", "0:3", "0-1000000", "+0-3", "0-3,", "0-\t3", "0-\u0663")


class TextCase(unittest.TestCase):
    def bad(self, text, line, column):
        with self.assertRaises(BadText) as caught:
            read_city(text)
        self.assertEqual((caught.exception.line, caught.exception.column), (line, column), repr(text))

    def bad_line(self, line, column):
        """A wrong line behind, among and ahead of right ones."""
        for ahead in ([], LINES[1:3], ["", "# none", "   "]):
            for behind in ([], LINES[1:3], LINES[:1] + LINES[5:], ["nonsense"], [""]):
                self.bad("\n".join([*ahead, line, *behind]), len(ahead) + 1, column)

    def good(self, text, city=CITY, sky=SKY):
        told = read_city(text)
        self.assertEqual(told, (city, sky))
        self.assertIsInstance(told, tuple)
        self.assertTrue(is_city(told[0]) and is_sky(*told))


class Right(TextCase):
    def test_the_text(self):
        self.good(TEXT)
        self.good(TEXT + "\n")
        self.good("\n" + TEXT + "\n\n")

    def test_lines_in_any_order(self):
        for number, lines in enumerate(itertools.permutations(LINES)):
            if number % 7 == 0:
                city = (("b", "a"),) + CITY[1:] if lines.index("junction b") < lines.index("junction a") else CITY
                self.good("\n".join(lines), city)

    def test_what_is_of_one_kind_stands_as_its_lines_do(self):
        text = "\n".join([
            "plough bob b", "street z a b 1 2 3", "arc wet dry z", "junction b", "street y b a 9 20 0 0-1 2-4 5-60", "plough ann a", "junction a",
            "arc dry dry", "sky dry", "arc wet wet", "arc fog wet y z", "day 60 late 5 falls 2", "arc dry wet z y", "street x a b 1 1 9",
        ])
        streets = (("z", "a", "b", 1, 2, 3, ()), ("y", "b", "a", 9, 20, 0, ((0, 1), (2, 4), (5, 60))), ("x", "a", "b", 1, 1, 9, ()))
        city = (("b", "a"), streets, (("bob", "b"), ("ann", "a")), (60, 5, 2))
        wet = ("wet", (("dry", ("z",)), ("wet", ())))
        dry = ("dry", (("dry", ()), ("wet", ("z", "y"))))
        self.good(text, city, ("dry", (wet, dry, ("fog", (("wet", ("y", "z")),)))))

    def test_remarks_empty_lines_and_blanks(self):
        self.good("# a town\n\n" + "\n   \n#\n".join(LINES) + "\n  # the end")
        self.good("\n".join(line + "#" for line in LINES))
        self.good("\n".join(line + " # " + line for line in LINES))
        self.good("\n".join(line + "   " for line in LINES))
        self.good("\n".join("   " + line for line in LINES))
        self.good("\n".join(line.replace(" ", "    ") for line in LINES))
        self.good("\n".join("  " + line.replace(" ", "  ") + "  #x\ty" for line in LINES))
        self.good("#" + TEXT.replace("\n", "\n#") + "\n" + TEXT)
        self.good(TEXT + "\n\t #".replace("\t", ""))

    def test_a_remark_within_a_word(self):
        self.good(TEXT.replace("junction b", "junction b#c"))
        self.bad("junction#b", 1, 9)

    def test_remarks_may_have_any_signs(self):
        self.good(TEXT + "# \t\r\u00e9\x00%")

    def test_numbers(self):
        self.good(TEXT.replace("day 3", "day 60"), CITY[:3] + ((60, 0, 0),))
        self.good(TEXT.replace("1 1 2", "9 20 9"), (CITY[0], (("hill", "a", "b", 9, 20, 9, ((0, 3),)),)) + CITY[2:])
        for number in ("100000", "999999"):
            with self.assertRaises(BadCity):
                read_city(TEXT.replace("day 3", "day " + number))
            with self.assertRaises(BadCity):
                read_city(TEXT.replace("0-3", "0-" + number))
        self.good(TEXT.replace("1 1 2", "1 1 0"), (CITY[0], (("hill", "a", "b", 1, 1, 0, ((0, 3),)),)) + CITY[2:])

    def test_names_that_are_words_of_lines(self):
        text = "day 1 late 0 falls 0\njunction junction\njunction day\nstreet street junction day 1 1 0\nplough late junction\nsky sky\narc sky arc\narc arc sky street"
        city = (("junction", "day"), (("street", "junction", "day", 1, 1, 0, ()),), (("late", "junction"),), (1, 0, 0))
        self.good(text, city, ("sky", (("sky", (("arc", ()),)), ("arc", (("sky", ("street",)),)))))

    def test_the_longest_name(self):
        self.good(TEXT.replace("hill", "a2345678"), (CITY[0], (("a2345678",) + HILL[1:],)) + CITY[2:], ("s", (("s", (("s", ("a2345678",)),)),)))

    def test_without_streets_and_hours(self):
        text = "day 1 late 0 falls 1\njunction a\nplough ann a\nsky s\narc s s"
        self.good(text, (("a",), (), (("ann", "a"),), (1, 0, 1)), ("s", (("s", (("s", ()),)),)))
        self.good(TEXT.replace(" 0-3", ""), (CITY[0], (HILL[:6] + ((),),)) + CITY[2:])


class Wrong(TextCase):
    def test_each_word_of_each_kind(self):
        for kind, words in KINDS.items():
            for place, word in enumerate(words):
                wrong = NO_NUMBERS if word[0] in "0123456789" else NO_NAMES
                if word in ("late", "falls"):
                    wrong = ("lat", "latex", "Late", "3", "day", "-", "l\tate") + (("falls",) if word == "late" else ("late",))
                for other in wrong:
                    line = " ".join([kind, *words[:place], other, *words[place + 1:]])
                    self.bad_line(line, len(" ".join([kind, *words[:place], ""])) + 1)

    def test_blanks_count(self):
        self.bad("  junction   B", 1, 14)
        self.bad("   nothing", 1, 4)
        self.bad("day  3 late  x falls 0", 1, 14)
        self.bad(" junction  a  b # c", 1, 15)

    def test_the_first_of_several_words(self):
        self.bad_line("junction A B", 10)
        self.bad_line("street HILL A b x 1 2", 8)
        self.bad_line("street hill a b x 1 y", 17)
        self.bad_line("nothing at all", 1)

    def test_each_word_that_lacks(self):
        for kind, words in KINDS.items():
            for many in range(len(words)):
                line = " ".join([kind, *words[:many]])
                self.bad_line(line, len(line) + 1)
                self.bad_line(line + "   ", len(line) + 4)
                self.bad_line(line + "#", len(line) + 1)
                self.bad_line(line + "  # and " + line, len(line) + 3)
                self.bad_line("  " + line, len(line) + 3)

    def test_a_word_too_many(self):
        for kind, words in KINDS.items():
            line = " ".join([kind, *words])
            for other in ("x", "1", "0-3", "A", "-"):
                if kind == "arc" and other == "x" or kind == "street" and other == "0-3":
                    continue
                self.bad_line(line + " " + other, len(line) + 2)
                self.bad_line(line + "   " + other + " x # y", len(line) + 4)

    def test_hours(self):
        line = "street hill a b 1 1 2"
        for word in NO_HOURS:
            self.bad_line(f"{line} {word}", len(line) + 2)
            self.bad_line(f"{line} 0-1 2-3  {word} 4-5", len(line) + 11)
            self.bad_line(f"{line} {word} x", len(line) + 2)

    def test_streets_of_an_arc(self):
        line = "arc s s"
        for word in NO_NAMES:
            self.bad_line(f"{line} {word}", len(line) + 2)
            self.bad_line(f"{line} hill other  {word} hill", len(line) + 14)

    def test_the_first_word(self):
        for word in ("Day", "days", "da", "junctions", "go", "-", "a", "3", "\t", "\tday", "day\t3", "day,", "sky:", "\r", "\x0b", "\u00a0", "\ufeffday"):
            self.bad_line(f"{word} 3 late 0 falls 0", 1)
            self.bad_line(f"   {word}", 4)

    def test_a_second_day_and_a_second_sky(self):
        for lines, column in ((["day 3 late 0 falls 0"], 1), (["  day 3 late 0 falls 0"], 3), (["day"], 1), (["day x"], 1), ([" day#"], 2)):
            self.bad("\n".join(LINES + lines), 8, column)
            self.bad("\n".join(LINES[:1] + lines + LINES[1:]), 2, column)
        for lines, column in ((["sky s"], 1), (["  sky t"], 3), (["sky"], 1), (["sky A b"], 1), ([" sky # s"], 2)):
            self.bad("\n".join(LINES + lines), 8, column)
            self.bad("\n".join(LINES[:6] + ["", ""] + lines), 9, column)
        self.bad("\n".join(LINES + ["sky s", "day 3 late 0 falls 0"]), 8, 1)

    def test_the_first_wrong_line(self):
        self.bad("junction A\njunction B\nnothing", 1, 10)
        self.bad("junction a\n\n# x\njunction B\nnothing", 4, 10)
        self.bad("junction A\n" + TEXT, 1, 10)

    def test_day_or_sky_lacks(self):
        without_day = "\n".join(LINES[1:])
        without_sky = "\n".join(LINES[:5] + LINES[6:])
        for text in (without_day, without_sky, "\n".join(LINES[1:5] + LINES[6:])):
            lines = text.split("\n")
            self.bad(text, len(lines), len(lines[-1]) + 1)
            self.bad(text + "\n", len(lines) + 1, 1)
            self.bad(text + "\n\n", len(lines) + 2, 1)
            self.bad(text + "  ", len(lines), len(lines[-1]) + 3)
            self.bad(text + "\n   ", len(lines) + 1, 4)
            self.bad("#" + TEXT.replace("\n", "\n#") + "\n" + text, 7 + len(lines), len(lines[-1]) + 1)
        self.bad("day 3 late 0 falls 0", 1, 21)
        self.bad("sky s", 1, 6)

    def test_the_empty_text(self):
        self.bad("", 1, 1)
        self.bad("\n", 2, 1)
        self.bad("  ", 1, 3)
        self.bad("\n\n ", 3, 2)

    def test_the_last_sign_may_be_of_a_remark(self):
        self.bad("# none", 1, 7)
        self.bad("day 3 late 0 falls 0\n # no sky", 2, 10)

    def test_a_wrong_line_comes_ahead_of_what_lacks(self):
        self.bad("junction a\njunction A\njunction b", 2, 10)

    def test_other_things(self):
        for thing in OTHER_THINGS:
            if not isinstance(thing, str):
                self.bad(thing, 0, 0)
        self.bad(TEXT.encode(), 0, 0)
        self.bad(LINES, 0, 0)

    def test_the_other_ends_of_lines_part_none(self):
        for sign in "\r\x0b\x0c\x1c\u2028\x85":
            self.bad(f"junction a{sign}junction b", 1, 10)
        self.bad("junction a\r\njunction b", 1, 10)
        self.bad("day 3 late 0 falls 0\r", 1, 20)


class Unfit(TextCase):
    def bad_city(self, text):
        with self.assertRaises(BadCity) as caught:
            read_city(text)
        self.assertTrue(hasattr(caught.exception, "name") and hasattr(caught.exception, "why"))

    def bad_sky(self, text):
        with self.assertRaises(BadSky) as caught:
            read_city(text)
        self.assertTrue(hasattr(caught.exception, "name") and hasattr(caught.exception, "why"))

    def test_cities(self):
        for old, new in (
            ("day 3", "day 0"), ("day 3", "day 61"), ("day 3", "day 2"), ("late 0", "late 6"), ("falls 0", "falls 2"), ("junction b", "junction c"),
            ("junction b", "junction a"), ("hill a b", "hill a a"), ("hill a b", "hill a c"), ("1 1 2", "2 1 2"), ("1 1 2", "0 1 2"),
            ("1 1 2", "1 21 2"), ("1 1 2", "1 1 10"), ("0-3", "3-3"), ("0-3", "0-1 1-2"), ("0-3", "2-3 0-1"), ("plough ann a", "plough ann c"),
            ("plough ann a", ""), ("plough ann a", "plough hill a"), ("junction a\njunction b", ""), ("plough ann a", "plough ann a\nplough ann b"),
            ("0-3", "0-1 2-3 4-5"),
        ):
            self.assertIn(old, TEXT)
            self.bad_city(TEXT.replace(old, new))
        self.bad_city("day 1 late 0 falls 0\nsky s")

    def test_skies(self):
        self.bad_sky(TEXT.replace("arc s s hill", "arc s s hall"))
        self.bad_sky(TEXT.replace("arc s s hill", "arc s s hill hill"))
        self.bad_sky(TEXT + "\narc s s" * 12)
        self.good(TEXT + "\narc s s" * 11, CITY, ("s", (("s", (("s", ("hill",)),) + (("s", ()),) * 11),)))
        self.bad_sky(TEXT + "".join(f"\narc s{k} s" for k in range(30)))
        read_city(TEXT + "".join(f"\narc s{k} s" for k in range(29)))

    def test_the_first_state_without_arcs(self):
        self.bad_sky(TEXT.replace("sky s", "sky t"))
        self.bad_sky(TEXT.replace("arc s s hill", ""))
        self.bad_sky(TEXT.replace("arc s s hill", "arc t t hill"))

    def test_an_arc_to_a_state_without_arcs(self):
        self.bad_sky(TEXT + "\narc s t")
        self.good(TEXT + "\narc s t\narc t s", CITY, ("s", (("s", (("s", ("hill",)), ("t", ()))), ("t", (("s", ()),)))))

    def test_the_city_comes_first(self):
        self.bad_city(TEXT.replace("day 3", "day 0").replace("sky s", "sky t"))
        self.bad(TEXT.replace("day 3", "day 0") + "\nx", 8, 1)
        self.bad(TEXT.replace("day 3", "day 0").replace("sky s", ""), 7, 13)

    def test_as_check_city_and_check_sky(self):
        for text in (TEXT.replace("day 3", "day 0"), TEXT.replace("1 1 2", "2 1 2"), TEXT.replace("plough ann a", "plough ann c")):
            with self.assertRaises(BadCity) as caught:
                read_city(text)
            city = (("a", "b"), (HILL,), (("ann", "a"),), (0, 0, 0))
            if "2 1 2" in text:
                city = (("a", "b"), (("hill", "a", "b", 2, 1, 2, ((0, 3),)),), (("ann", "a"),), (3, 0, 0))
            if "ann c" in text:
                city = (("a", "b"), (HILL,), (("ann", "c"),), (3, 0, 0))
            with self.assertRaises(BadCity) as wanted:
                check_city(city)
            self.assertEqual(vars(caught.exception), vars(wanted.exception))
        with self.assertRaises(BadSky) as caught:
            read_city(TEXT.replace("arc s s hill", "arc s s hall"))
        with self.assertRaises(BadSky) as wanted:
            check_sky(CITY, ("s", (("s", (("s", ("hall",)),)),)))
        self.assertEqual(vars(caught.exception), vars(wanted.exception))


class Written(TextCase):
    def check(self, city, sky):
        before = copy.deepcopy((city, sky))
        text = city_text(city, sky)
        self.assertEqual((city, sky), before)
        self.assertIsInstance(text, str)
        self.good(text, city, sky)
        self.good("\n".join(" " + line + " #" for line in text.split("\n")), city, sky)

    def test_samples(self):
        for city, sky in ((CITY, SKY), (TOWN, FAIR), (PAIR, FAIR), (RING, ("s", (("s", (("s", ("ca", "ab")), ("s", ()))),)))):
            self.check(city, sky)

    def test_without_streets(self):
        self.check(empty_town(60), ("s", (("s", (("s", ()),)),)))
        self.check(empty_town(1), clear_sky(20, 12, 10))

    def test_streets_without_hours_and_with_many(self):
        self.check(quiet_town(9, 2, 20), clear_sky(2))
        hours = ((0, 1), (2, 3), (4, 7), (9, 10), (20, 40), (41, 60))
        self.check((("a", "b"), (HILL[:6] + (hours,),), (("ann", "a"),), (60, 5, 1)), SKY)

    def test_the_states_stay_in_their_order(self):
        sky = ("m", (("z", (("m", ()),)), ("a", (("z", ("hill",)), ("a", ()))), ("m", (("a", ()), ("z", ("hill",))))))
        self.check(CITY, sky)

    def test_small_worlds(self):
        for city, sky in small_worlds(100):
            self.check(city, sky)


if __name__ == "__main__":
    unittest.main()
