"""The texts of trees, points and integers: one for each, and none else is read."""

from bothcome.errors import InvalidText, InvalidTree
from bothcome.trees import Tree

_MOST_DIGITS = 30
_NOTHING = "-"


def show_tree(tree):
    """The text of a tree."""
    return _show_pairs(tree.roads, ":")


def show_points(points):
    """The text of a list of points, those of no tree, too."""
    return _show_pairs(points, ".")


def read_tree(text):
    """The tree that has this text."""
    try:
        return Tree(_read_pairs(text, ":"))
    except InvalidTree:
        raise InvalidText("not the text of a tree") from None


def read_points(text):
    """The list of the points that have this text, of any two integers."""
    return _read_pairs(text, ".")


def read_integer(text):
    """The integer from 0 on that has this text."""
    # Signs beyond ASCII may look like digits.
    if not isinstance(text, str) or not text.isascii() or not text.isdigit():
        raise InvalidText("not only digits")
    if len(text) > _MOST_DIGITS:
        raise InvalidText("more digits than are read")
    if text[0] == "0" and text != "0":
        raise InvalidText("a leading zero")
    return int(text)


def _show_pairs(pairs, mark):
    """The text of a list of pairs of integers, with a mark between both."""
    if len(pairs) == 0:
        return _NOTHING
    return " ".join([f"{one}{mark}{other}" for one, other in pairs])


def _read_pairs(text, mark):
    """The list of the pairs of integers that have this text."""
    if not isinstance(text, str):
        raise InvalidText("not a string")
    if text == _NOTHING:
        return []
    return [_read_pair(word, mark) for word in text.split(" ")]


def _read_pair(word, mark):
    """The pair of integers that has this text."""
    parts = word.split(mark)
    if len(parts) != 2:
        raise InvalidText("not two integers with a mark between them")
    return (read_integer(parts[0]), read_integer(parts[1]))
