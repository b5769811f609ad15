"""The errors of the program: one for each kind of refusal."""


class RingError(ValueError):
    """Anything that the program refuses."""


class BadTown(RingError):
    """A thing that is no town."""


class BadDay(RingError):
    """A thing that is no day of the town."""


class BadDeed(RingError):
    """A thing that is no deed."""


class TooMany(RingError):
    """One neighbour, skill, offer or wish more than there may be."""


class NoDeed(RingError):
    """No deed is left to take back."""


class Twice(RingError):
    """The neighbour is there already."""

    def __init__(self, name):
        super().__init__(f"{name} is there already")
        self.name = name


class NoNeighbour(RingError):
    """There is no neighbour of that name."""

    def __init__(self, name):
        super().__init__(f"{name} is no neighbour")
        self.name = name


class OutOfBounds(RingError):
    """The neighbour's purse or state does not allow the deed."""

    def __init__(self, name):
        super().__init__(f"{name} would be out of bounds")
        self.name = name


class Both(RingError):
    """The neighbour would offer and wish for the same skill."""

    def __init__(self, name):
        super().__init__(f"{name} would offer and wish for the same skill")
        self.name = name
