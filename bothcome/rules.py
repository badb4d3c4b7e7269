"""Rules that lead a crew to calls, knowing only the calls so far."""

from bothcome.crews import send


class Nearest:
    """The rule by which the nearest helper goes to the call."""

    def __eq__(self, other):
        """Tell whether the other value is this rule, too."""
        if not isinstance(other, Nearest):
            return False
        return True


class Both:
    """The rule by which all helpers who see the call go towards it."""

    def __eq__(self, other):
        """Tell whether the other value is this rule, too."""
        if not isinstance(other, Both):
            return False
        return True


def lead(tree, rule, crew, call):
    """The crew that a rule has led to a call, and the way that its helpers went."""
    if isinstance(rule, Nearest):
        return _lead_nearest(tree, crew, call)
    return _lead_both(tree, crew, call)


def who_came(crew, call):
    """The least number of the helpers at the point of the call."""
    return crew.index(call)


def seers(tree, crew, call):
    """List the helpers who see the call, by ascending number."""
    return [number for number, comings in enumerate(_comings(tree, crew, call)) if 0 not in comings]


def run(tree, rule, crew, calls):
    """The crew behind all calls, and the way that its helpers went."""
    last_crew = list(crew)
    way = 0
    for call in calls:
        last_crew, gone = lead(tree, rule, last_crew, call)
        way = way + gone
    return (last_crew, way)


def _lead_nearest(tree, crew, call):
    """Send the helper with the least distance, of these the one with the least number."""
    distances = [tree.distance(helper, call) for helper in crew]
    return send(tree, crew, distances.index(min(distances)), call)


def _lead_both(tree, crew, call):
    """Let each helper go until another one comes between it and the call."""
    last_crew = []
    way = 0
    for helper, comings in zip(crew, _comings(tree, crew, call)):
        gone = min(comings, default=tree.distance(helper, call))
        last_crew.append(tree.towards(helper, call, gone))
        way = way + gone
    return (last_crew, way)


def _comings(tree, crew, call):
    """For each helper, list the distances behind which nearer ones come onto its way.

    A nearer helper comes onto the way of another one at the fork where their ways
    meet. One who stops before the fork was stopped by a helper who comes onto that
    same way no later: so each least distance is right, as if nobody stopped.
    """
    distances = [tree.distance(helper, call) for helper in crew]
    comings = []
    for number, far in enumerate(distances):
        nearer = [k for k in range(len(crew)) if (distances[k], k) < (far, number)]
        # What two ways have in common behind the fork counts in both distances.
        comings.append([(tree.distance(crew[number], crew[k]) + distances[k] - far) // 2 for k in nearer])
    return comings
