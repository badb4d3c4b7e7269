"""Best plans, and the least ways that end at given points."""

from bothcome.crews import apart, check_crew, send
from bothcome.errors import InvalidCrew


class Ahead:
    """The least ways that are ahead of helpers when some of the calls are served."""

    def __init__(self, tree, calls, ends):
        """Keep what is to be served; ends is None if the helpers may end anywhere."""
        self._tree = tree
        self._stops = calls
        self._ends = ends
        self._known = {}

    def least(self, at, standing):
        """The least way from the call with this number on, for helpers at these points."""
        # Who stands where does not matter for the way: so each set of points is asked once.
        key = (at, tuple(sorted(standing)))
        if key not in self._known:
            self._known[key] = self._search(at, standing)
        return self._known[key]

    def ways(self, at, standing):
        """For each helper, the least way from the call with this number on if this one serves it."""
        ways = []
        for number in range(len(standing)):
            sent, gone = send(self._tree, standing, number, self._stops[at])
            ways.append(gone + self.least(at + 1, sent))
        return ways

    def _search(self, at, standing):
        """Work out the least way from the call with this number on."""
        if at == len(self._stops):
            return 0 if self._ends is None else apart(self._tree, standing, self._ends)
        # Nobody need go where somebody is: going on straight later is no longer.
        if self._stops[at] in standing:
            return self.least(at + 1, standing)
        return min(self.ways(at, standing))


def best_way(tree, crew, calls):
    """The least way of all plans."""
    return Ahead(tree, calls, None).least(0, crew)


def best_plan(tree, crew, calls):
    """The first one, as lists are ordered, of the plans with the least way."""
    ahead = Ahead(tree, calls, None)
    standing = list(crew)
    plan = []
    for at, call in enumerate(calls):
        ways = ahead.ways(at, standing)
        plan.append(ways.index(min(ways)))
        standing[plan[-1]] = call
    return plan


def works(tree, crew, calls, ends):
    """The least way to serve the calls and to have all helpers end at given points, in any order."""
    check_crew(tree, ends)
    if len(ends) != len(crew):
        raise InvalidCrew("not as many points as there are helpers")
    return Ahead(tree, calls, ends).least(0, crew)
