"""Standings, orders and answers as words with one blank between.

What is read is first guessed, then asked whether it is one and has just the text that was given.
"""

from snowsure.errors import BadText
from snowsure.world import are_orders, is_answer, is_standing


def standing_text(standing):
    """A standing as words."""
    time, state, snow, ploughs, fallen = standing
    words = [plough_word(plough) for plough in ploughs]
    return " ".join((str(time), state, snow_word(snow), *words, str(fallen)))


def snow_word(snow):
    """The snow on each street as a word."""
    return ",".join([str(units) for units in snow]) if snow else "-"


def plough_word(plough):
    """Where a plough is as a word."""
    if plough[0] == "on":
        _, street, junction, is_work, left = plough
        return f"on:{street}:{junction}:{way_word(is_work)}:{left}"
    return ":".join(plough)


def way_word(is_work):
    return "work" if is_work else "pass"


def orders_text(orders):
    """Orders as words."""
    return " ".join([order_word(order) for order in orders])


def order_word(order):
    """What is ordered to a plough as a word."""
    if order is None:
        return "-"
    street, is_work = order
    return f"{street}:{way_word(is_work)}"


def answer_text(answer):
    """An answer as words."""
    arc, comes, breaks = answer
    signs = "".join(["y" if here else "n" for here in comes])
    broken = "-" if breaks is None else str(breaks)
    return f"{arc} {signs} {broken}"


# Reading.


def standing_by(city, sky, text):
    """The standing that has just this text."""
    words = words_in(text)
    if len(words) >= 4:
        time, state, snow, *ploughs, fallen = words
        whereabouts = tuple([plough_by(word) for word in ploughs])
        standing = (integer_by(time), state, snow_by(snow), whereabouts, integer_by(fallen))
        if is_standing(city, sky, standing) and standing_text(standing) == text:
            return standing
    raise BadText(1, 1)


def orders_by(city, standing, text):
    """The orders that have just this text and can be given at a standing."""
    orders = tuple([order_by(word) for word in words_in(text)])
    if are_orders(city, standing, orders) and orders_text(orders) == text:
        return orders
    raise BadText(1, 1)


def answer_by(city, sky, standing, orders, text):
    """The answer to orders that has just this text."""
    words = words_in(text)
    if len(words) == 3 and are_orders(city, standing, orders):
        arc, comes, breaks = words
        broken = None if breaks == "-" else integer_by(breaks)
        answer = (integer_by(arc), tuple([sign == "y" for sign in comes]), broken)
        if is_answer(city, sky, standing, orders, answer) and answer_text(answer) == text:
            return answer
    raise BadText(1, 1)


def words_in(text):
    """The words of a text, none of what is no text."""
    return text.split(" ") if isinstance(text, str) else []


def integer_by(word):
    """The integer that a word may tell, None if it tells none."""
    try:
        return int(word)
    except ValueError:
        return None


def snow_by(word):
    """The snow that a word may tell."""
    return () if word == "-" else tuple([integer_by(units) for units in word.split(",")])


def plough_by(word):
    """The whereabouts of a plough that a word may tell."""
    parts = word.split(":")
    if len(parts) == 5:
        kind, street, junction, way, left = parts
        return kind, street, junction, way == "work", integer_by(left)
    return tuple(parts)


def order_by(word):
    """What a word may tell to be ordered to a plough."""
    if word == "-":
        return None
    street, _, way = word.partition(":")
    return street, way == "work"
