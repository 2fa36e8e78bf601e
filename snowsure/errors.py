"""The errors of the package. What each one is told is kept as attributes of the same names."""


class SnowError(Exception):
    """Any error of the package."""


class BadCity(SnowError):
    """A thing is no city: where, and why."""

    def __init__(self, name, why):
        self.name = name
        self.why = why


class BadSky(SnowError):
    """A thing is no sky: where, and why."""

    def __init__(self, name, why):
        self.name = name
        self.why = why


class BadOrders(SnowError):
    """Orders that can't be given, or an answer to them that can't be."""

    def __init__(self, thing):
        self.thing = thing


class BadPaper(SnowError):
    """A paper doesn't show what it should."""

    def __init__(self, why):
        self.why = why


class TooMany(SnowError):
    """There are more to go through than this."""

    def __init__(self, most):
        self.most = most


class BadText(SnowError):
    """A text is wrong at a line and a column."""

    def __init__(self, line, column):
        self.line = line
        self.column = column
