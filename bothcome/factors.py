"""Which factors a rule keeps on given places: numbers that show it, and rings that break it."""

from math import gcd

from bothcome.errors import InvalidFactor, InvalidPlaces, TooMany
from bothcome.kinds import is_int, is_int_pair
from bothcome.rivals import are_places
from bothcome.rules import lead

_MOST = 150


class Standings:
    """All joint standings that can come, numbered from 0, the beginning, on.

    A plan's crew is kept as the numbers of its places in their sorted order: sorted
    numbers stand for sorted points. A step is a tuple (the number of the standing
    behind it, the rule's way, the plan's distance, the number of the place of the call,
    the number of the plan's helper).
    """

    def __init__(self, tree, places, crew, rule):
        """Follow all calls at the places and all plans; raise TooMany if too many standings can come."""
        self._tree = tree
        self._rule = rule
        self._spots = sorted(places)
        self._led = {}
        self._sent = {}
        self._numbers = {}
        self._found = []
        self._number((tuple(crew), tuple(sorted([self._spots.index(helper) for helper in crew]))))
        self.rows = []
        while len(self.rows) < len(self._found):
            self.rows.append(self._steps(self._found[len(self.rows)]))

    def shown(self, number):
        """The joint standing with this number, a tuple of two lists of points."""
        crew, other = self._found[number]
        return (list(crew), [self._spots[k] for k in other])

    def shown_ring(self, start, steps):
        """The tuple (standing, calls, numbers) of steps that lead from a standing back to it."""
        return (self.shown(start), [self._spots[step[3]] for step in steps], [step[4] for step in steps])

    def _number(self, standing):
        """The number of a standing, a new one if it is found for the first time."""
        if standing not in self._numbers:
            if len(self._found) == _MOST:
                raise TooMany("more joint standings can come than are followed")
            self._numbers[standing] = len(self._found)
            self._found.append(standing)
        return self._numbers[standing]

    def _steps(self, standing):
        """List all steps that lead on from a standing."""
        crew, other = standing
        # Crews come in many joint standings each: so where they go is worked out only once.
        if crew not in self._led:
            self._led[crew] = self._leads(crew)
        if other not in self._sent:
            self._sent[other] = self._sends(other)
        steps = []
        for call, (led, gone) in enumerate(self._led[crew]):
            for sent, far, number in self._sent[other][call]:
                steps.append((self._number((led, sent)), gone, far, call, number))
        return steps

    def _leads(self, crew):
        """For each place, the crew that the rule leads there, and its way."""
        leads = []
        for call in self._spots:
            led, gone = lead(self._tree, self._rule, list(crew), call)
            leads.append((tuple(led), gone))
        return leads

    def _sends(self, other):
        """For each place, the crews behind sending a helper there, with the distance and the helper."""
        return [self._sends_to(call, other) for call in range(len(self._spots))]

    def _sends_to(self, call, other):
        """List tuples (crew, distance, number), one for each helper that a plan may send to a place."""
        sends = []
        for number, place in enumerate(other):
            # Of helpers at the same place one is enough: all lead to the same standing.
            if place not in other[:number]:
                sent = sorted(other[:number] + (call,) + other[number + 1:])
                far = self._tree.distance(self._spots[place], self._spots[call])
                sends.append((tuple(sent), far, number))
        return sends


def ring(tree, places, crew, rule, factor):
    """None if the factor is kept, otherwise a joint standing, calls and numbers that break it."""
    _check_places(tree, places, crew)
    _check_factor(factor)
    standings = Standings(tree, places, crew, rule)
    steps = _search(standings.rows, factor)[0]
    if steps is None:
        return None
    # The last step of a ring leads back to where the first one starts.
    return standings.shown_ring(steps[-1][0], steps)


def numbers(tree, places, crew, rule, factor):
    """None if the factor is not kept, otherwise a list of tuples (joint standing, integer) that shows it."""
    _check_places(tree, places, crew)
    _check_factor(factor)
    standings = Standings(tree, places, crew, rule)
    steps, ahead = _search(standings.rows, factor)
    if steps is not None:
        return None
    # Along a step, what is ahead falls by the excess of the step or more: so its negative rises.
    return [(standings.shown(number), -excess) for number, excess in enumerate(ahead)]


def is_numbers(tree, places, crew, rule, factor, items):
    """Tell whether a list of tuples (joint standing, integer) shows that the factor is kept."""
    _check_places(tree, places, crew)
    _check_factor(factor)
    standings = Standings(tree, places, crew, rule)
    heights = _heights(standings, items)
    if heights is None:
        return False
    for height, steps in zip(heights, standings.rows):
        for step in steps:
            if heights[step[0]] - height < _excess(step, factor):
                return False
    return True


def least_factor(tree, places, crew, rule):
    """The least fraction (top, bottom) that is kept, in lowest terms, or None if none is."""
    _check_places(tree, places, crew)
    rows = Standings(tree, places, crew, rule).rows
    factor = (0, 1)
    steps = _search(rows, factor)[0]
    # Each ring needs a greater factor than the one that it breaks, and there are only so many.
    while steps is not None:
        gone = sum([step[1] for step in steps])
        far = sum([step[2] for step in steps])
        if far == 0:
            return None
        factor = (gone // gcd(gone, far), far // gcd(gone, far))
        steps = _search(rows, factor)[0]
    return factor


def _check_places(tree, places, crew):
    """Raise InvalidPlaces unless a value is a list of different places at which the crew stands."""
    if not are_places(tree, places) or len(places) == 0:
        raise InvalidPlaces("not a list of one or more different points of the tree")
    for helper in crew:
        if helper not in places:
            raise InvalidPlaces("not every helper stands at one of the places")


def _check_factor(factor):
    """Raise InvalidFactor unless a value is a tuple of a top from 0 on and a bottom from 1 on."""
    if not is_int_pair(factor) or factor[0] < 0 or factor[1] < 1:
        raise InvalidFactor("not a tuple of an integer from 0 on and one from 1 on")


def _excess(step, factor):
    """By how much a step of the rule is more than the factor allows for the plan's distance."""
    top, bottom = factor
    return bottom * step[1] - top * step[2]


def _search(rows, factor):
    """Search for a ring that breaks a factor: a tuple (its steps or None, what is ahead).

    Without such a ring there is for each standing a greatest excess that steps from it
    on can have in all. It is raised step by step, and the step that raised it last is
    chosen. If chosen steps form a ring, the last one of them raised what the others were
    based on: so all together they have an excess.
    """
    weighted = [[(step[0], _excess(step, factor), step) for step in steps] for steps in rows]
    ahead = [0 for _ in rows]
    chosen = [None for _ in rows]
    while _raise_all(weighted, ahead, chosen):
        steps = _chosen_ring(chosen)
        if steps is not None:
            return (steps, ahead)
    return (None, ahead)


def _raise_all(weighted, ahead, chosen):
    """Raise what is ahead of each standing by its own steps, and tell whether any of it rose."""
    rose = False
    # The standings found last are the farthest: what is ahead of them goes on to the others at once.
    for number in range(len(weighted) - 1, -1, -1):
        for behind, excess, step in weighted[number]:
            if ahead[behind] + excess > ahead[number]:
                ahead[number] = ahead[behind] + excess
                chosen[number] = step
                rose = True
    return rose


def _chosen_ring(chosen):
    """List chosen steps that lead from a standing back to it, None if there are none."""
    seen = {}
    for start in range(len(chosen)):
        number = start
        while number not in seen and chosen[number] is not None:
            seen[number] = start
            number = chosen[number][0]
        # Met for the second time from the same start: so this standing is on a ring.
        if chosen[number] is not None and seen[number] == start:
            return _steps_around(chosen, number)
    return None


def _steps_around(chosen, start):
    """List the chosen steps from a standing on a ring around to it."""
    steps = [chosen[start]]
    while steps[-1][0] != start:
        steps.append(chosen[steps[-1][0]])
    return steps


def _heights(standings, items):
    """List the integers of items in the order of the standings, None if these are not there once each."""
    told = {}
    for (crew, other), height in items:
        if not is_int(height):
            return None
        told[(tuple(crew), tuple(other))] = height
    heights = []
    for number in range(len(standings.rows)):
        crew, other = standings.shown(number)
        heights.append(told.get((tuple(crew), tuple(other))))
    if None in heights or len(items) != len(heights):
        return None
    return heights
