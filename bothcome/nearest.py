"""Rows of calls that show that the rule Nearest keeps no factor."""

from bothcome.errors import TooSmall


def beyond(tree, k, factor, slack):
    """A crew, calls and a plan: the way of Nearest is more than factor times the plan's way plus slack."""
    near, middle, far = _three_in_a_row(tree)
    # Helper 0 goes 1 to each call, for ever: as near as the others, with the least number.
    # The plan sends helper 1 to the middle once, and both stay there.
    turns = [number % 2 for number in range(factor + slack + 1)]
    crew = [near] + [far] * (k - 1)
    calls = [near if turn == 1 else middle for turn in turns]
    return (crew, calls, [1 - turn for turn in turns])


def _three_in_a_row(tree):
    """List three points on one way, each at the distance 1 from the one before."""
    for node in range(len(tree)):
        for other in range(node):
            # The two points that are farthest apart are nodes: so it is enough to ask for these.
            if tree.distance((node, 0), (other, 0)) >= 2:
                return [tree.towards((node, 0), (other, 0), far) for far in (0, 1, 2)]
    raise TooSmall("no two points of the tree have a distance of 2")
