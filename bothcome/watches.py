"""A live watch, which follows a rule call by call."""

from bothcome.crews import check_crew
from bothcome.errors import InvalidPoint, NothingToUndo
from bothcome.rules import lead, who_came


class Watch:
    """A crew that a rule leads to calls, which can be taken back."""

    def __init__(self, tree, crew, rule):
        """Begin without calls."""
        check_crew(tree, crew)
        self._tree = tree
        self._rule = rule
        self._told = []
        # The crew and the way at the beginning and behind each call: so calls can be taken back.
        self._crews = [list(crew)]
        self._ways = [0]

    @property
    def crew(self):
        """The list of the points where the helpers stand now."""
        return list(self._crews[-1])

    @property
    def calls(self):
        """The list of the calls so far."""
        return list(self._told)

    @property
    def way(self):
        """The sum of the distances that all helpers went so far."""
        return self._ways[-1]

    def __len__(self):
        """The number of calls."""
        return len(self._told)

    def __iter__(self):
        """Go over the calls, in their order."""
        return iter(self._told)

    def call(self, point):
        """Lead the crew to a call, and return the number of the helper who came."""
        if point not in self._tree:
            raise InvalidPoint("not a point of the tree")
        led, gone = lead(self._tree, self._rule, self._crews[-1], point)
        self._told.append(point)
        self._crews.append(led)
        self._ways.append(self._ways[-1] + gone)
        return who_came(led, point)

    def back(self, *, count=1):
        """Take back the last calls."""
        if count > len(self._told):
            raise NothingToUndo("there are fewer calls")
        left = len(self._told) - count
        self._told = self._told[:left]
        self._crews = self._crews[:left + 1]
        self._ways = self._ways[:left + 1]
