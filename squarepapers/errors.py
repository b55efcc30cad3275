"""The refusals, each with the fields that it is made with."""

from squarepapers.kinds import tupled


class BadText(ValueError):
    """A text that isn't one of its kind; spot is where that shows."""

    def __init__(self, spot):
        ValueError.__init__(self, spot)
        self.spot = spot


class BadDegree(ValueError):
    """A form of too great a degree."""

    def __init__(self, degree):
        ValueError.__init__(self, degree)
        self.degree = degree


class BadUnknowns(ValueError):
    """Forms with other unknowns than one and the same."""

    def __init__(self, names):
        # A list that was handed in must not change what the error tells later.
        kept = tupled(names)
        ValueError.__init__(self, kept)
        self.names = kept


class BadPaper(ValueError):
    """A paper that doesn't show the claim of that name."""

    def __init__(self, name):
        ValueError.__init__(self, name)
        self.name = name


class BadPlace(ValueError):
    """A place at which the claim of that name doesn't fail."""

    def __init__(self, name):
        ValueError.__init__(self, name)
        self.name = name


class BadRow(ValueError):
    """A row of a sheet that isn't written as rows are."""

    def __init__(self, row):
        ValueError.__init__(self, row)
        self.row = row


class NoParts(ZeroDivisionError):
    """Something is to be parted by nought."""


class NoWorth(KeyError):
    """A place lacks the unknown of that name."""

    def __init__(self, name):
        KeyError.__init__(self, name)
        self.name = name


class NoClaim(KeyError):
    """There is no claim of that name."""

    def __init__(self, name):
        KeyError.__init__(self, name)
        self.name = name


class Known(KeyError):
    """There is a claim of that name already."""

    def __init__(self, name):
        KeyError.__init__(self, name)
        self.name = name


class Fails(RuntimeError):
    """What is to hold fails at that place."""

    def __init__(self, place):
        # A list that was handed in must not change what the error tells later.
        kept = tupled(place)
        RuntimeError.__init__(self, kept)
        self.place = kept


class Ring(RuntimeError):
    """The claim of that name would lean on itself."""

    def __init__(self, name):
        RuntimeError.__init__(self, name)
        self.name = name


class NotShown(RuntimeError):
    """The claim of that name isn't shown."""

    def __init__(self, name):
        RuntimeError.__init__(self, name)
        self.name = name


class Settled(RuntimeError):
    """The claim of that name has failed."""

    def __init__(self, name):
        RuntimeError.__init__(self, name)
        self.name = name


class NotAhead(LookupError):
    """The paper of that name leans on one that isn't ahead of it."""

    def __init__(self, name):
        LookupError.__init__(self, name)
        self.name = name


class NoDeed(IndexError):
    """There aren't that many deeds."""

    def __init__(self, many):
        IndexError.__init__(self, many)
        self.many = many
