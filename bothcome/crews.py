"""Crews of helpers: their spread, and how far two of them are apart."""

from bothcome.errors import InvalidCrew
from bothcome.trees import ROOT


def check_crew(tree, crew):
    """Raise InvalidCrew unless a value is a list of one or more points."""
    if not isinstance(crew, list) or len(crew) == 0:
        raise InvalidCrew("not a list of one or more points")
    for point in crew:
        if point not in tree:
            raise InvalidCrew("not every helper is at a point of the tree")


def _check_both(tree, crew, other):
    """Raise InvalidCrew unless both values are crews with equally many helpers."""
    check_crew(tree, crew)
    check_crew(tree, other)
    if len(crew) != len(other):
        raise InvalidCrew("the crews have unlike numbers of helpers")


def send(tree, crew, number, point):
    """The crew when the helper with this number has gone to a point, and its way."""
    sent = list(crew)
    sent[number] = point
    return (sent, tree.distance(crew[number], point))


def spread(tree, crew):
    """The sum of the distances of all pairs of helpers."""
    check_crew(tree, crew)
    parts = _parts(tree, [(helper, 1) for helper in crew])
    # Each helper below a step and each one who is not make a pair whose way goes over it.
    return sum([many * (len(crew) - many) * (high - low) for _, low, high, many in parts])


def apart(tree, crew, other):
    """The least sum of all matchings of two crews."""
    # The sum of the cover, without a list of its single steps: roads may be long.
    return sum([abs(many) * (high - low) for _, low, high, many in _differences(tree, crew, other)])


def matching(tree, crew, other):
    """A matching of two crews with the least sum."""
    _check_both(tree, crew, other)
    partners = {}
    taken = {}
    # Pairs that meet far from the root come first: so over each step go only those
    # for whom there is no partner on its side, as few as the cover shows.
    for _, i, k in sorted(_pairs(tree, crew, other)):
        if i not in partners and k not in taken:
            partners[i] = k
            taken[k] = True
    return [partners[i] for i in range(len(crew))]


def _pairs(tree, crew, other):
    """List all pairs (key, i, k) of helpers, with the least key where they share most."""
    return [(-_shared(tree, crew[i], other[k]), i, k) for i in range(len(crew)) for k in range(len(other))]


def _shared(tree, one, other):
    """Twice the length that the ways from the root to both points have in common."""
    return tree.distance(ROOT, one) + tree.distance(ROOT, other) - tree.distance(one, other)


def cover(tree, crew, other):
    """The steps (v, up, many) that show that no matching has a lesser sum."""
    steps = []
    for node, low, high, many in sorted(_differences(tree, crew, other)):
        steps.extend([(node, up, abs(many)) for up in range(low, high)])
    return steps


def _differences(tree, crew, other):
    """List the parts of roads below which the crews have unlike numbers of helpers."""
    _check_both(tree, crew, other)
    return _parts(tree, [(helper, 1) for helper in crew] + [(helper, -1) for helper in other])


def _parts(tree, counted):
    """Cut the roads at counted points: list the parts (node, low, high, many).

    Each point counts as the integer beside it says; many is the sum for all points on
    the node's side of the part, and parts for which it is 0 are left out.
    """
    roads = tree.roads
    counts = [[] for _ in range(len(tree))]
    for (node, up), count in counted:
        counts[node].append((up, count))
    parts = []
    # Parents have lesser numbers: so a node comes behind all that hang on it.
    for node in range(len(roads), 0, -1):
        parent, length = roads[node - 1]
        low = many = 0
        for up, count in sorted(counts[node]) + [(length, 0)]:
            if many != 0 and up > low:
                parts.append((node, low, up, many))
            low = up
            many = many + count
        counts[parent].append((0, many))
    return parts
