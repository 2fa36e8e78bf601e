"""Further errors of the package, of books and desks."""

from snowsure.errors import SnowError


class BadCut(SnowError):
    """A fall can't leave so many signs."""

    def __init__(self, cut):
        self.cut = cut


class BadBook(SnowError):
    """What is told can't have happened: why is the number of the first that can't."""

    def __init__(self, why):
        self.why = why
