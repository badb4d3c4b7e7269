"""Crews of helpers: their spread, and how far two of them are apart."""

from bothcome.errors import InvalidCrew
from bothcome.trees import ROOT


def check_crew(tree, crew):
    """Raise InvalidCrew unless a value is a list of one or more points."""
    if not isinstance(crew, list) or len(crew) == 0:
        raise InvalidCrew("not a list of one or more points")
    for point in crew:
        if point not in tree:
            raise InvalidCrew("not every helper is at a point of the tree")


def _check_both(tree, crew, other):
    """Raise InvalidCrew unless both values are crews with equally many helpers."""
    check_crew(tree, crew)
    check_crew(tree, other)
    if len(crew) != len(other):
        raise InvalidCrew("the crews have unlike numbers of helpers")


def send(tree, crew, number, point):
    """The crew when the helper with this number has gone to a point, and its way."""
    sent = list(crew)
    sent[number] = point
    return (sent, tree.distance(crew[number], point))


def spread(tree, crew):
    """The sum of the distances of all pairs of helpers."""
    check_crew(tree, crew)
    return sum([tree.distance(crew[i], crew[k]) for i in range(len(crew)) for k in range(i)])


def apart(tree, crew, other):
    """The least sum of all matchings of two crews."""
    partners = matching(tree, crew, other)
    return sum([tree.distance(crew[i], other[k]) for i, k in enumerate(partners)])


def matching(tree, crew, other):
    """A matching of two crews with the least sum."""
    _check_both(tree, crew, other)
    partners = {}
    taken = {}
    # Pairs that meet far from the root come first: so over each step go only those
    # for whom there is no partner on its side, as few as the cover shows.
    for _, i, k in sorted(_pairs(tree, crew, other)):
        if i not in partners and k not in taken:
            partners[i] = k
            taken[k] = True
    return [partners[i] for i in range(len(crew))]


def _pairs(tree, crew, other):
    """List all pairs (key, i, k) of helpers, with the least key where they share most."""
    return [(-_shared(tree, crew[i], other[k]), i, k) for i in range(len(crew)) for k in range(len(other))]


def _shared(tree, one, other):
    """Twice the length that the ways from the root to both points have in common."""
    return tree.distance(ROOT, one) + tree.distance(ROOT, other) - tree.distance(one, other)


def cover(tree, crew, other):
    """The steps (v, up, many) that show that no matching has a lesser sum."""
    _check_both(tree, crew, other)
    steps = []
    for node in range(1, len(tree)):
        # Between two neighbouring helpers on a road all steps have the same difference.
        for low, high in _stretches(tree, node, crew + other):
            many = abs(_many_below(tree, crew, (node, low)) - _many_below(tree, other, (node, low)))
            if many > 0:
                steps.extend([(node, up, many) for up in range(low, high)])
    return steps


def _stretches(tree, node, points):
    """List the parts (low, high) of a node's road between the points on it."""
    length = tree.roads[node - 1][1]
    ups = [up for at, up in points if at == node]
    bounds = sorted([0, length] + ups)
    return list(zip(bounds, bounds[1:]))


def _many_below(tree, crew, point):
    """Count the helpers who are at a point or behind it, seen from the root."""
    return len([helper for helper in crew if tree.on_way(point, ROOT, helper)])
