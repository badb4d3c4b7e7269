"""The errors of the package, each created with one text."""


class WatchError(ValueError):
    """The base of all errors of the package."""


class InvalidTree(WatchError):
    """The value is not a list of roads that form a tree."""


class InvalidPoint(WatchError):
    """The value is not a point of the tree, or not a distance on the way."""


class InvalidCrew(WatchError):
    """The value is not a crew, or has the wrong number of helpers."""


class InvalidPlan(WatchError):
    """The value is not a plan for the calls."""


class InvalidPlaces(WatchError):
    """The value is not a list of different places that fits the crew."""


class InvalidFactor(WatchError):
    """The value is not a factor, a tuple of a top and a bottom."""


class TooSmall(WatchError):
    """The tree has no two points with a distance of 2."""


class TooMany(WatchError):
    """More joint standings can come than the package follows."""


class NothingToUndo(WatchError):
    """There are fewer calls than are to be taken back."""


class InvalidText(WatchError):
    """The value is not the text of a tree or of points."""


class InvalidCommand(WatchError):
    """The value does not have the form of a command."""


class NotReady(WatchError):
    """The command needs a tree or a watch that is not there."""
