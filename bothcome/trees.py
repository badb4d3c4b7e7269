"""Trees of roads, the points on them, and the ways between points."""

from bothcome.errors import InvalidPoint, InvalidTree
from bothcome.kinds import is_int, is_int_pair

ROOT = (0, 0)


def _is_road(value, node):
    """Tell whether a value is a road (parent, length) for this node."""
    if not is_int_pair(value):
        return False
    parent, length = value
    return 0 <= parent < node and length >= 1


def _are_roads(value):
    """Tell whether a value is a list of roads for the nodes from 1 on."""
    if not isinstance(value, list):
        return False
    return all([_is_road(road, node) for node, road in enumerate(value, start=1)])


def _node_depths(roads):
    """List the distances of all nodes from the root."""
    depths = [0]
    for parent, length in roads:
        depths.append(depths[parent] + length)
    return depths


class Tree:
    """Nodes from 0, the root, on; each other one has a road to its parent."""

    def __init__(self, roads):
        """Build the tree of a list of tuples (parent, length)."""
        if not _are_roads(roads):
            raise InvalidTree("not a list of tuples (parent, length) that form a tree")
        self._roads = [(parent, length) for parent, length in roads]
        # The root is kept as if it had a road of length 1: so (0, 0) is its only point.
        self._parents = [0] + [road[0] for road in self._roads]
        self._lengths = [1] + [road[1] for road in self._roads]
        self._depths = _node_depths(self._roads)

    @property
    def roads(self):
        """The list of tuples (parent, length) for the nodes from 1 on."""
        return list(self._roads)

    def __len__(self):
        """The number of nodes."""
        return len(self._parents)

    def __eq__(self, other):
        """Tell whether the other value is a tree with equal roads."""
        return isinstance(other, Tree) and self._roads == other._roads

    def __contains__(self, x):
        """Tell whether any value is a point of this tree."""
        if not is_int_pair(x):
            return False
        node, up = x
        if node < 0 or node >= len(self._lengths):
            return False
        return 0 <= up < self._lengths[node]

    def distance(self, one, other):
        """The length of the way between two points."""
        self._check_points([one, other])
        return self._way_length(one, other)

    def on_way(self, point, one, other):
        """Tell whether a point is on the way between two points."""
        self._check_points([point, one, other])
        parts = self._way_length(one, point) + self._way_length(point, other)
        return parts == self._way_length(one, other)

    def towards(self, one, other, far):
        """The point on the way from one to other at the distance far from one."""
        self._check_points([one, other])
        length = self._way_length(one, other)
        if not is_int(far) or far < 0 or far > length:
            raise InvalidPoint("not a distance from 0 to the length of the way")
        if far <= self._depth(one) - self._depth(self._top(one, other)):
            return self._climb(one, far)
        return self._climb(other, length - far)

    def hung(self, node):
        """The tree with the same nodes and roads that has this node as its root."""
        line = self._line(node)
        order = self._order(node)
        new_roads = {}
        for child in range(1, len(order)):
            parent = self._parents[child]
            # On the line from the new root to the elder one, up and down change places.
            lower, upper = (parent, child) if child in line else (child, parent)
            new_roads[lower] = (order.index(upper), self._lengths[child])
        return Tree([new_roads[elder] for elder in order[1:]])

    def hung_point(self, node, point):
        """Where a point of this tree is in the tree hung at a node."""
        order = self._order(node)
        child, up = point
        # Inside a road that is turned over, the distance counts from its other end.
        if up > 0 and child in self._line(node):
            return (order.index(self._parents[child]), self._lengths[child] - up)
        return (order.index(child), up)

    def _check_points(self, values):
        """Raise InvalidPoint unless all values are points of this tree."""
        for value in values:
            if value not in self:
                raise InvalidPoint("not a point of the tree")

    def _depth(self, point):
        """The distance of a point from the root."""
        node, up = point
        return self._depths[node] - up

    def _line(self, node):
        """List the nodes from this one up to the root, both included."""
        line = [node]
        while line[-1] != 0:
            line.append(self._parents[line[-1]])
        return line

    def _top(self, one, other):
        """The point of the way between two points that is nearest to the root."""
        node, up = one
        other_node, other_up = other
        while node != other_node:
            # Parents have lesser numbers: so the greater node is not above the other one.
            if node > other_node:
                node, up = self._parents[node], 0
            else:
                other_node, other_up = self._parents[other_node], 0
        return (node, max(up, other_up))

    def _way_length(self, one, other):
        """The distance of two values that are known to be points."""
        return self._depth(one) + self._depth(other) - 2 * self._depth(self._top(one, other))

    def _climb(self, point, far):
        """The point at a distance from a point, straight towards the root."""
        node, up = point
        up = up + far
        while up >= self._lengths[node]:
            up = up - self._lengths[node]
            node = self._parents[node]
        return (node, up)

    def _order(self, node):
        """List the nodes in the order of their numbers when hung at a node."""
        lines = [self._line(elder) for elder in range(len(self._parents))]
        # Two lines up to the root differ in as many nodes as there are roads between.
        places = [(len(set(line) ^ set(lines[node])), elder) for elder, line in enumerate(lines)]
        return [place[1] for place in sorted(places)]
