"""The refusals: each keeps in its fields what it is made of."""


class LeanError(ValueError):
    """What all refusals about books, papers and texts stand under."""


class NoBook(LeanError):
    """A book isn't let by: the word tells why, the name at which maker or saying."""

    def __init__(self, word, name):
        self.word = word
        self.name = name


class NoStep(LeanError):
    """The node at this number doesn't stand."""

    def __init__(self, at):
        self.at = at


class TooMany(LeanError):
    """A paper's ways have more unlike ties than the most asked for."""

    def __init__(self, most):
        self.most = most


class Loose(LeanError):
    """A paper has this ring, along which nothing need ever fall."""

    def __init__(self, ring):
        self.ring = ring


class TooLong(LeanError):
    """More nodes than the most asked for would be gone into."""

    def __init__(self, most):
        self.most = most


class NoJoin(LeanError):
    """Two papers can't be joined at a saying."""


class NoPlain(LeanError):
    """The node at this number of a plain paper doesn't stand."""

    def __init__(self, at):
        self.at = at


class BadText(LeanError):
    """This row is the first that can't be one of such a text."""

    def __init__(self, row):
        self.row = row


class NoRow(LeanError):
    """A row isn't one that the desk can be asked with."""


class Unknown(KeyError):
    """No paper is kept by this name."""

    def __init__(self, name):
        self.name = name


class NoNode(IndexError):
    """There is no node, or no goal, of this number."""

    def __init__(self, at):
        self.at = at
