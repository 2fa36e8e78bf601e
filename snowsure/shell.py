"""A shell: a script tells a city, and then, line by line, what is done and asked at its desk."""

from snowsure.cards import fewest_facts
from snowsure.citytexts import counted, is_number, read_city, words_of
from snowsure.costs import dearest
from snowsure.desks import Desk, departures
from snowsure.errors import BadText
from snowsure.games import verdict
from snowsure.promises import promised
from snowsure.standingtexts import answer_by, answer_text, orders_by, orders_text, standing_text
from snowsure.world import answers_of, closed_streets


class Shell:
    """A city's verdict and its desk."""

    def __init__(self, city, sky):
        word, paper = verdict(city, sky)
        self.city = city
        self.sky = sky
        self.word = word
        self.paper = paper
        self.rule = paper if word == "promised" else {}
        self.desk = Desk(city, sky, "")


# Lines of a word alone: what they bring.


def verdict_lines(shell):
    return [f"{shell.word} {len(shell.paper)}"]


def now_lines(shell):
    return [standing_text(shell.desk.standing)]


def closed_lines(shell):
    return [" ".join(("closed", *closed_streets(shell.city, shell.desk.standing)))]


def has_plan(shell):
    """Whether the rule has orders at the desk's standing."""
    return shell.desk.standing in shell.rule


def plan_lines(shell):
    if not has_plan(shell):
        return ["no plan"]
    return [f"plan {orders_text(shell.rule[shell.desk.standing])}"]


def may_lines(shell):
    if not has_plan(shell):
        return ["no plan"]
    standing = shell.desk.standing
    answers = answers_of(shell.city, shell.sky, standing, shell.rule[standing])
    return [f"may {answer_text(answer)}" for answer in answers]


def settle_lines(shell):
    shell.desk.settle()
    return [f"settled {len(shell.desk.ticks)}"]


def strayed_lines(shell):
    return [" ".join(("strayed", *[str(number) for number in departures(shell.desk, shell.rule)]))]


def cost_lines(shell):
    if shell.word != "promised":
        return ["no rule"]
    (a, b), _, _ = dearest(shell.city, shell.sky, shell.rule)
    return [f"cost {a}/{b}"]


# Lines of a word and more: what they bring.


def tick_lines(shell, words):
    """A tick is written down, if it can be."""
    desk = shell.desk
    middle = words.index("/")
    try:
        orders = orders_by(shell.city, desk.standing, " ".join(words[:middle]))
        answer = answer_by(shell.city, shell.sky, desk.standing, orders, " ".join(words[middle + 1:]))
    except BadText:
        return ["no tick"]
    desk.write(orders, answer)
    return [at_line(shell)]


def at_line(shell):
    """How many ticks are in the book."""
    return f"at {len(shell.desk.ticks)}"


def fall_lines(shell, words):
    """A fall; a desk is gone on with behind it."""
    cut = min(int(words[0]), len(shell.desk.loose))
    shell.desk = Desk(shell.city, shell.sky, shell.desk.fallen(cut))
    return [at_line(shell)]


def promise_lines(shell, words):
    if not has_plan(shell):
        return ["no plan"]
    street = words[0]
    ticks = promised(shell.city, shell.sky, shell.rule, shell.desk.standing, street)
    told = "never" if ticks is None else str(ticks)
    return [f"promise {street} {told}"]


def card_lines(shell, words):
    if not has_plan(shell):
        return ["no plan"]
    plough = [row[0] for row in shell.city[2]].index(words[0])
    (facts, _), _ = fewest_facts(shell.city, shell.sky, shell.rule, plough)
    return [" ".join(("card", words[0], *[fact_word(shell.city, fact) for fact in facts]))]


def fact_word(city, fact):
    """A fact as a word, its number told by a name."""
    if len(fact) == 1:
        return fact[0]
    rows = city[1] if fact[0] == "snow" else city[2]
    return f"{fact[0]}:{rows[fact[1]][0]}"


ALONE = {
    "verdict": verdict_lines,
    "now": now_lines,
    "closed": closed_lines,
    "plan": plan_lines,
    "may": may_lines,
    "settle": settle_lines,
    "strayed": strayed_lines,
    "cost": cost_lines,
}
WITH_MORE = {"tick": tick_lines, "fall": fall_lines, "promise": promise_lines, "card": card_lines}

# What must stand behind a line's first word; a tick's words are asked otherwise.
SLOTS = {"fall": "NUMBER", "promise": "STREET", "card": "PLOUGH"}


# Scripts.


def run_script(text):
    """The list of the lines that a script brings."""
    if not isinstance(text, str):
        raise BadText(0, 0)
    lines = text.split("\n")
    begin = number_of_go(lines)
    if begin is None:
        raise BadText(len(lines), len(lines[-1]) + 1)
    city, sky = read_city("\n".join(lines[:begin]))
    shell = Shell(city, sky)
    brought = []
    for number, line in enumerate(lines[begin + 1:], start=begin + 2):
        words = words_of(line)
        if words:
            column = wrong_column(city, line, words)
            if column is not None:
                raise BadText(number, column)
            brought += lines_for(shell, [word for word, _ in words])
    return brought


def number_of_go(lines):
    """The number, from 0 on, of the first line that is just go, None without one."""
    for number, line in enumerate(lines):
        if [word for word, _ in words_of(line)] == ["go"]:
            return number
    return None


def wrong_column(city, line, words):
    """The column from which a line is wrong, None if it isn't."""
    kind, first_column = words[0]
    end = len(counted(line)) + 1
    if kind == "tick":
        return None if "/" in [word for word, _ in words] else end
    if kind not in ALONE and kind not in SLOTS:
        return first_column
    slots = [SLOTS[kind]] if kind in SLOTS else []
    for place, (word, column) in enumerate(words[1:]):
        if place >= len(slots) or not can_stand(city, word, slots[place]):
            return column
    return end if len(words) <= len(slots) else None


def can_stand(city, word, slot):
    """Whether a word can stand where this is asked."""
    if slot == "NUMBER":
        return is_number(word)
    rows = city[1] if slot == "STREET" else city[2]
    return word in [row[0] for row in rows]


def lines_for(shell, words):
    """What a line of words brings."""
    kind = words[0]
    if kind in ALONE:
        action = ALONE[kind]
        return action(shell)
    action = WITH_MORE[kind]
    return action(shell, words[1:])
