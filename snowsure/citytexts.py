"""Cities and the skies over them as texts."""

from snowsure.cities import check_city, check_sky
from snowsure.errors import BadText
from snowsure.kinds import is_name

FIGURES = "0123456789"
MOST_FIGURES = 6

# What must stand behind a line's first word, and what may stand behind that, as often as wished.
SLOTS = {
    "day": ("NUMBER", "late", "NUMBER", "falls", "NUMBER"),
    "junction": ("NAME",),
    "street": ("NAME", "NAME", "NAME", "NUMBER", "NUMBER", "NUMBER"),
    "plough": ("NAME", "NAME"),
    "sky": ("NAME",),
    "arc": ("NAME", "NAME"),
}
MORE = {"street": "HOURS", "arc": "NAME"}
ONCE = ("day", "sky")


# Words.


def counted(line):
    """What counts of a line: what stands ahead of a remark."""
    return line.partition("#")[0]


def words_of(line):
    """The words of a line, each with its column."""
    words = []
    column = 1
    for word in counted(line).split(" "):
        if word:
            words.append((word, column))
        column += len(word) + 1
    return words


def is_number(word):
    """Whether a word is a number."""
    if not 1 <= len(word) <= MOST_FIGURES or not all([sign in FIGURES for sign in word]):
        return False
    return word == "0" or word[0] != "0"


def is_hours(word):
    """Whether a word is two numbers with a sign between."""
    begin, _, end = word.partition("-")
    return is_number(begin) and is_number(end)


def can_stand(word, slot):
    """Whether a word can stand where this is asked."""
    if slot == "NAME":
        return is_name(word)
    if slot == "NUMBER":
        return is_number(word)
    if slot == "HOURS":
        return is_hours(word)
    return word == slot


# Reading.


def read_city(text):
    """The city and the sky that a text tells."""
    if not isinstance(text, str):
        raise BadText(0, 0)
    lines = text.split("\n")
    rows = rows_in(lines)
    kinds = [row[0] for row in rows]
    if "day" not in kinds or "sky" not in kinds:
        raise BadText(len(lines), len(lines[-1]) + 1)
    city = city_in(rows)
    check_city(city)
    sky = sky_in(rows)
    check_sky(city, sky)
    return city, sky


def rows_in(lines):
    """The words of each line that has some; BadText if they can't stand so."""
    rows = []
    had = {}
    for number, line in enumerate(lines, start=1):
        words = words_of(line)
        if words:
            column = wrong_column(line, words, had)
            if column is not None:
                raise BadText(number, column)
            rows.append([word for word, _ in words])
            had[words[0][0]] = True
    return rows


def wrong_column(line, words, had):
    """The column from which a line is wrong, had being what lines began with ahead of it; None if it isn't."""
    kind, first_column = words[0]
    if kind not in SLOTS or (kind in ONCE and kind in had):
        return first_column
    slots = SLOTS[kind]
    for place, (word, column) in enumerate(words[1:]):
        # Nothing can stand where nothing is asked any more.
        if not can_stand(word, slots[place] if place < len(slots) else MORE.get(kind)):
            return column
    return len(counted(line)) + 1 if len(words) <= len(slots) else None


def all_of(rows, kind):
    """What stands behind the first word of all rows of a kind."""
    return [row[1:] for row in rows if row[0] == kind]


def city_in(rows):
    """The city that rows of words tell."""
    junctions = tuple([row[0] for row in all_of(rows, "junction")])
    streets = tuple([street_in(*row) for row in all_of(rows, "street")])
    ploughs = tuple([(name, junction) for name, junction in all_of(rows, "plough")])
    day, _, late, _, falls = all_of(rows, "day")[0]
    return junctions, streets, ploughs, (int(day), int(late), int(falls))


def street_in(name, one, other, passing, work, limit, *hours):
    """The street that words tell."""
    spans = tuple([tuple(map(int, span.split("-"))) for span in hours])
    return name, one, other, int(passing), int(work), int(limit), spans


def sky_in(rows):
    """The sky that rows of words tell, its states in the order of their first arcs."""
    arcs = {}
    for state, behind, *streets in all_of(rows, "arc"):
        arcs.setdefault(state, []).append((behind, tuple(streets)))
    return all_of(rows, "sky")[0][0], tuple([(state, tuple(arcs[state])) for state in arcs])


# Writing.


def city_text(city, sky):
    """A text from which a city and a sky are read."""
    junctions, streets, ploughs, (day, late, falls) = city
    first, states = sky
    lines = [f"day {day} late {late} falls {falls}"]
    lines += [f"junction {junction}" for junction in junctions]
    lines += [street_line(street) for street in streets]
    lines += [f"plough {name} {junction}" for name, junction in ploughs]
    lines.append(f"sky {first}")
    for state, arcs in states:
        lines += [" ".join(("arc", state, behind, *fallen_on)) for behind, fallen_on in arcs]
    return "\n".join(lines)


def street_line(street):
    """The line of a street."""
    name, one, other, passing, work, limit, hours = street
    spans = [f"{begin}-{end}" for begin, end in hours]
    return " ".join(("street", name, one, other, str(passing), str(work), str(limit), *spans))
