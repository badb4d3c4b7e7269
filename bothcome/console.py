"""A console, which is told commands and answers with strings."""

from bothcome.best import best_way
from bothcome.crews import apart
from bothcome.errors import InvalidCommand, InvalidText, NotReady
from bothcome.rules import Both, Nearest
from bothcome.texts import read_integer, read_points, read_tree, show_points
from bothcome.watches import Watch

_BARE = ("crew", "calls", "way", "best")
_WITH_POINTS = ("call", "apart", "distance")
_CHANGING = ("tree", "watch", "call", "back")


class Console:
    """A tree and a watch on it, at first none, and the commands for both."""

    def __init__(self):
        """Begin without a tree and without a watch."""
        self._tree = None
        self._watch = None
        # The crew with which the watch began.
        self._begun = []

    def execute(self, command):
        """Carry out a command, and return its answer."""
        word, value = _read_command(command)
        self._check_ready(word)
        if word in _CHANGING:
            return self._change(word, value)
        return self._tell(word, value)

    def _check_ready(self, word):
        """Raise NotReady if a command needs a tree or a watch that is not there."""
        if word in ("watch", "distance") and self._tree is None:
            raise NotReady("there is no tree")
        if word not in ("tree", "watch", "distance") and self._watch is None:
            raise NotReady("there is no watch")

    def _change(self, word, value):
        """Carry out a command that changes the tree or the watch."""
        if word == "call":
            return str(self._watch.call(value[0]))
        if word == "back":
            self._watch.back(count=value)
        elif word == "tree":
            self._tree = read_tree(value)
            self._watch = None
        else:
            rule, crew = value
            self._watch = Watch(self._tree, crew, rule)
            self._begun = crew
        return "ok"

    def _tell(self, word, value):
        """Answer a command that changes nothing."""
        if word == "crew":
            return show_points(self._watch.crew)
        if word == "calls":
            return show_points(self._watch.calls)
        return str(self._measure(word, value))

    def _measure(self, word, value):
        """The integer that a command asks for."""
        if word == "way":
            return self._watch.way
        if word == "best":
            return best_way(self._tree, self._begun, self._watch.calls)
        if word == "apart":
            return apart(self._tree, self._watch.crew, value)
        return self._tree.distance(value[0], value[1])


def _read_command(command):
    """The word of a command, and the value of what stands behind it."""
    if not isinstance(command, str):
        raise InvalidCommand("not a string")
    if command in _BARE:
        return (command, None)
    word, _, rest = command.partition(" ")
    try:
        return (word, _read_value(word, rest))
    except InvalidText:
        raise InvalidCommand("no points or no integer where there should be such") from None


def _read_value(word, rest):
    """The value of what stands behind the word of a command and one space."""
    # The text of a tree is not judged here: it is no part of the form.
    if word == "tree" and rest != "":
        return rest
    if word == "back":
        return read_integer(rest)
    if word in _WITH_POINTS:
        return _read_some_points(word, rest)
    if word == "watch":
        return _read_rule_and_crew(rest)
    raise InvalidCommand("not one of the commands")


def _read_some_points(word, rest):
    """The list of as many points as stand behind this word."""
    points = read_points(rest)
    if (word == "call" and len(points) != 1) or (word == "distance" and len(points) != 2) or len(points) == 0:
        raise InvalidCommand("points too many or too few")
    return points


def _read_rule_and_crew(rest):
    """The tuple of the rule and the crew of a watch."""
    name, _, text = rest.partition(" ")
    if name not in ("both", "nearest"):
        raise InvalidCommand("not the name of a rule")
    crew = read_points(text)
    if len(crew) == 0:
        raise InvalidCommand("no helper")
    return (Both() if name == "both" else Nearest(), crew)
