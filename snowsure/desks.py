"""The desk at which each tick is written down, and what a rule says there."""

from snowsure.deskerrors import BadCut
from snowsure.errors import BadOrders, BadText
from snowsure.kinds import is_within
from snowsure.runs import run
from snowsure.standingtexts import answer_by, answer_text, orders_by, orders_text
from snowsure.world import beginning, follow


def book_line(number, orders, answer):
    """The line of a tick, without its line feed. The number stands at both ends: a line that was cut shows."""
    return f"{number} {orders_text(orders)} / {answer_text(answer)} {number}"


def tick_by(city, sky, standing, number, line):
    """The orders and the answer of the tick that has just this line; BadText without one."""
    ahead, _, behind = line.partition(" / ")
    orders = orders_by(city, standing, ahead.partition(" ")[2])
    answer = answer_by(city, sky, standing, orders, behind.rpartition(" ")[0])
    if book_line(number, orders, answer) != line:
        raise BadText(1, 1)
    return orders, answer


def book_in(city, sky, text):
    """(ticks, standing, many) of the longest beginning of a text that is a book."""
    ticks = []
    standing = beginning(city, sky)
    many = 0
    for number, line in enumerate(text.split("\n")[:-1]):
        try:
            orders, answer = tick_by(city, sky, standing, number, line)
        except BadText:
            break
        ticks.append((orders, answer))
        standing = follow(city, sky, standing, orders, answer)
        many += len(line) + 1
    return tuple(ticks), standing, many


class Desk:
    """A book that is gone on with. What is loose may be lost by a fall, what is settled stays."""

    def __init__(self, city, sky, text):
        self.city = city
        self.sky = sky
        ticks, standing, many = book_in(city, sky, text)
        self.text = text[:many]
        self.loose = ""
        self.ticks = ticks
        self.standing = standing

    def write(self, orders, answer):
        """Write down a tick, loosely."""
        standing = follow(self.city, self.sky, self.standing, orders, answer)
        line = book_line(len(self.ticks), orders, answer)
        self.loose = f"{self.loose}{line}\n"
        self.ticks = (*self.ticks, (orders, answer))
        self.standing = standing

    def settle(self):
        """Settle what is loose."""
        self.text = self.text + self.loose
        self.loose = ""

    def fallen(self, cut):
        """The text behind a fall that leaves so many signs of what is loose."""
        if not is_within(cut, 0, len(self.loose)):
            raise BadCut(cut)
        return self.text + self.loose[:cut]


def proposal(desk, rule):
    """A rule's orders at a desk's standing."""
    if desk.standing not in rule:
        raise BadOrders(desk.standing)
    return rule[desk.standing]


def standings_in(desk):
    """All standings of a desk's book, the beginning ahead."""
    return run(desk.city, desk.sky, desk.ticks)


def departures(desk, rule):
    """The numbers of the ticks at whose standing a rule has no orders, or others."""
    numbers = []
    standings = standings_in(desk)
    for number, (orders, _) in enumerate(desk.ticks):
        standing = standings[number]
        if standing not in rule or rule[standing] != orders:
            numbers.append(number)
    return numbers
