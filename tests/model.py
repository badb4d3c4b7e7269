"""A slow model of the package to test against: it walks unit step by unit step."""

from itertools import permutations

from bothcome.rules import Both

# Every kind of shape, with short roads: these trees are walked step by step.
SMALL_TREES = [
    [],
    [(0, 1)],
    [(0, 5)],
    [(0, 1), (0, 1)],
    [(0, 2), (1, 3), (2, 1)],
    [(0, 4), (0, 3), (2, 2)],
    [(0, 2), (0, 1), (0, 3), (0, 2)],
    [(0, 2), (1, 2), (1, 3), (3, 1), (0, 2)],
    [(0, 1), (1, 2), (0, 3), (3, 1), (2, 2), (1, 1)],
    [(0, 2), (0, 1), (2, 2), (1, 1), (4, 2), (4, 1), (3, 1), (0, 3), (8, 1)],
]

BIG = 123456789012345678901234567890

ODD_VALUES = [
    None, True, False, 0, 1, -1, 7, 10 ** 30, 1.0, 0.5, 2j, "", "0", "0.0", "(0, 0)", b"", b"00",
    (), {}, {0: 1}, {0, 1}, frozenset(), object(), range(2), int, len, NotImplemented, ...,
]


def is_same(value, wanted):
    """Tell whether two results are equal and of the same kinds, part by part."""
    if type(value) is not type(wanted):
        return False
    if isinstance(wanted, (list, tuple)):
        return len(value) == len(wanted) and all(is_same(a, b) for a, b in zip(value, wanted))
    return value == wanted


def all_points(roads):
    return [(0, 0)] + [(v, up) for v, (_, length) in enumerate(roads, 1) for up in range(length)]


def upper(roads, point):
    """The point one step nearer to the root."""
    v, up = point
    parent, length = roads[v - 1]
    return (v, up + 1) if up + 1 < length else (parent, 0)


def line_up(roads, point):
    line = [point]
    while line[-1] != (0, 0):
        line.append(upper(roads, line[-1]))
    return line


def way(roads, one, other):
    """All points on the way between two points, in their order, found by a search."""
    near = {point: [] for point in all_points(roads)}
    for point in near:
        if point != (0, 0):
            above = upper(roads, point)
            near[point].append(above)
            near[above].append(point)
    ways = {one: [one]}
    queue = [one]
    for point in queue:
        for step in near[point]:
            if step not in ways:
                ways[step] = ways[point] + [step]
                queue.append(step)
    return ways[other]


def many_roads(roads, node):
    """For each node the number of roads from the given one."""
    found = {node: 0}
    queue = [node]
    for at in queue:
        for child, (parent, _) in enumerate(roads, 1):
            for a, b in ((child, parent), (parent, child)):
                if a == at and b not in found:
                    found[b] = found[at] + 1
                    queue.append(b)
    return found


def hung_roads(roads, node):
    """The roads when hung at a node, and the new number of each elder node."""
    many = many_roads(roads, node)
    order = sorted(many, key=lambda elder: (many[elder], elder))
    number = {elder: k for k, elder in enumerate(order)}
    new = {}
    for child, (parent, length) in enumerate(roads, 1):
        a, b = number[child], number[parent]
        new[max(a, b)] = (min(a, b), length)
    return [new[k] for k in range(1, len(order))], number


def hung_place(roads, node, point):
    """Where a point is in the tree hung at a node."""
    number = hung_roads(roads, node)[1]
    v, up = point
    if up == 0:
        return (number[v], 0)
    parent, length = roads[v - 1]
    if number[v] > number[parent]:
        return (number[v], up)
    return (number[parent], length - up)


class Ways:
    """All distances of a tree, walked once."""

    def __init__(self, roads):
        self.roads = roads
        self.lines = {point: line_up(roads, point) for point in all_points(roads)}
        self.known = {}
        self.known_ways = {}

    def distance(self, one, other):
        if (one, other) not in self.known:
            self.known[one, other] = len(self.way(one, other)) - 1
        return self.known[one, other]

    def sum_of(self, crew, other, numbers):
        return sum(self.distance(crew[i], other[k]) for i, k in enumerate(numbers))

    def apart(self, crew, other):
        return min(self.sum_of(crew, other, numbers) for numbers in permutations(range(len(crew))))

    def cover(self, crew, other):
        """The cover, as the document says it, step by step."""
        steps = []
        for v, (_, length) in enumerate(self.roads, 1):
            for up in range(length):
                many = abs(self.lower(crew, (v, up)) - self.lower(other, (v, up)))
                if many:
                    steps.append((v, up, many))
        return steps

    def lower(self, crew, point):
        """How many helpers walk over this point, or stand at it, when all walk to the root."""
        return sum(point in self.lines[helper] for helper in crew)

    def spread(self, crew):
        return sum(self.distance(a, b) for k, a in enumerate(crew) for b in crew[:k])

    def potential(self, crew, other):
        return len(crew) * self.apart(crew, other) + self.spread(crew)

    def way(self, one, other):
        """All points on the way between two points, in their order."""
        if (one, other) not in self.known_ways:
            self.known_ways[one, other] = way(self.roads, one, other)
        return self.known_ways[one, other]

    def sees(self, crew, number, call):
        """Whether nobody else is in the way of a helper, and none with a lesser number beside it."""
        way_ahead = self.way(crew[number], call)[1:]
        return crew[number] not in crew[:number] and not any(helper in way_ahead for helper in crew)

    def seers(self, crew, call):
        return [number for number in range(len(crew)) if self.sees(crew, number, call)]

    def lead_both(self, crew, call):
        """All who see the call go one step at the same time, until one is there."""
        now, gone = list(crew), 0
        while call not in now:
            going = self.seers(now, call)
            for number in going:
                now[number] = self.way(now[number], call)[1]
            gone += len(going)
        return now, gone

    def lead_nearest(self, crew, call):
        number = min(range(len(crew)), key=lambda k: (self.distance(crew[k], call), k))
        return self.sent(crew, number, call)

    def sent(self, crew, number, call):
        return list(crew[:number]) + [call] + list(crew[number + 1:]), self.distance(crew[number], call)

    def planned(self, crew, calls, plan):
        now, gone = list(crew), 0
        for call, number in zip(calls, plan):
            now, more = self.sent(now, number, call)
            gone += more
        return now, gone

    def paper(self, crew, other, calls, plan):
        rows = []
        for call, number in zip(calls, plan):
            other, plan_way = self.sent(other, number, call)
            between = self.potential(crew, other)
            crew, rule_way = self.lead_both(crew, call)
            rows.append((plan_way, between, rule_way, self.potential(crew, other)))
        return rows

    def lead(self, rule, crew, call):
        return self.lead_both(crew, call) if rule == Both() else self.lead_nearest(crew, call)

    def run(self, rule, crew, calls):
        gone = 0
        for call in calls:
            crew, more = self.lead(rule, crew, call)
            gone += more
        return crew, gone

    def rivals(self, rule, crew, places, many):
        """The calls, the rivals' plans and the lasts, as the document says them, word by word."""
        calls, plans, lasts = [], [[] for _ in crew], []
        last, now, rivals = list(crew), list(crew), [list(crew) for _ in crew]
        for t in range(many):
            (call,) = [place for place in places if place not in last]
            for z, helpers in enumerate(rivals):
                if t == 0:
                    number = z
                elif call not in helpers:
                    number = helpers.index(calls[-1])
                else:
                    number = helpers.index(call)
                plans[z].append(number)
                helpers[number] = call
            now = self.lead(rule, now, call)[0]
            came = min(number for number, helper in enumerate(now) if helper == call)
            lasts.append(self.distance(last[came], call))
            last[came] = call
            calls.append(call)
        return calls, plans, lasts

    def standings(self, rule, crew, places, most=10 ** 9):
        """All joint standings that can come, each with what leads on: (behind, rule's way, plan's distance).

        Ends early when there are more than most.
        """
        found = {(tuple(crew), tuple(sorted(crew))): []}
        queue = list(found)
        for now, other in queue:
            for call in places:
                led, gone = self.lead(rule, list(now), call)
                for number in range(len(other)):
                    sent, far = self.sent(list(other), number, call)
                    behind = (tuple(led), tuple(sorted(sent)))
                    if behind not in found:
                        found[behind] = []
                        queue.append(behind)
                    found[now, other].append((behind, gone, far))
            if len(found) > most:
                return found
        return found

    def around(self, rule, standing, calls, numbers):
        """Where calls and numbers lead from a joint standing, the rule's way and the plan's way."""
        (now, other), gone, far = standing, 0, 0
        for call, number in zip(calls, numbers):
            now, more = self.lead(rule, list(now), call)
            other, way = self.sent(list(other), number, call)
            other, gone, far = sorted(other), gone + more, far + way
        return (now, other), gone, far


def shows(found, factor, items):
    """Whether items show that a factor is kept, by the words of the document; found: of Ways.standings."""
    told = {}
    for (crew, other), number in items:
        told.setdefault((tuple(crew), tuple(other)), []).append(number)
    if set(told) != set(found) or any(len(numbers) != 1 for numbers in told.values()):
        return False
    return all(
        told[behind][0] - told[standing][0] >= factor[1] * gone - factor[0] * far
        for standing, steps in found.items() for behind, gone, far in steps
    )


def subdivided(roads, at, up):
    """The roads with a node more on the road of one node, and a function from old points to new ones.

    The new node has the number of that node, and it and all nodes behind it have one number more.
    """
    parent, length = roads[at - 1]
    assert 0 < up < length

    def moved(node):
        return node + 1 if node >= at else node

    new = [road for road in roads[:at - 1]]
    new += [(parent, length - up), (at, up)]
    new += [(moved(other), size) for other, size in roads[at:]]

    def point(old):
        node, far = old
        return (at, far - up) if node == at and far >= up else (moved(node), far)

    return new, point
