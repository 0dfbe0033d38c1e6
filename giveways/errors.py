"""The errors that the package raises, each with its values as attributes."""


class HouseError(ValueError):
    """Whatever the package refuses."""


class BadLine(HouseError):
    """A line that is no request."""

    def __init__(self, number):
        self.number = number


class BadText(HouseError):
    """A text with a piece that is not written as it should be."""

    def __init__(self, piece):
        self.piece = piece


class Known(HouseError):
    """A new name that is already there."""

    def __init__(self, name):
        self.name = name


class NoGroup(HouseError):
    """A name that no group has."""

    def __init__(self, name):
        self.name = name


class NoHouse(HouseError):
    """A name that no house has."""

    def __init__(self, name):
        self.name = name


class NoNumber(HouseError):
    """A number that tells no place."""

    def __init__(self, number):
        self.number = number


class NoQueue(HouseError):
    """A name that no queue has."""

    def __init__(self, name):
        self.name = name


class NoSignal(HouseError):
    """A name that no signal has."""

    def __init__(self, name):
        self.name = name


class NoStep(HouseError):
    """A number that no step has."""

    def __init__(self, number):
        self.number = number


class NoTask(HouseError):
    """A name that no task has."""

    def __init__(self, name):
        self.name = name


class NotReady(HouseError):
    """A task whose turn cannot be taken."""

    def __init__(self, name):
        self.name = name


class NotWhole(HouseError):
    """A run behind which some task is still ready."""


class NothingDone(HouseError):
    """Nothing that could be taken back or done again."""


class Unfit(HouseError):
    """Something that would come out unlike what it must be."""
