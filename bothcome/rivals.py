"""Rivals, whose ways show together what the helpers of a rule need at least."""

from bothcome.errors import InvalidPlaces
from bothcome.plans import planned
from bothcome.rules import lead, who_came


def are_places(tree, value):
    """Tell whether a value is a list of different points of the tree."""
    if not isinstance(value, list):
        return False
    for place in value:
        if place not in tree:
            return False
    return len(set(value)) == len(value)


def rivals(tree, rule, crew, places, many):
    """The calls, the plans of the rivals, and for each call the distance from a last place."""
    _check_one_more(tree, crew, places)
    calls, lasts = _calls_at_free_places(tree, rule, crew, places, many)
    plans = [_rival(crew, calls, first) for first in range(len(crew))]
    return (calls, plans, lasts)


def best_rival(tree, rule, crew, places, many):
    """The number and the way of the first rival with the least way."""
    calls, plans, _ = rivals(tree, rule, crew, places, many)
    ways = [planned(tree, crew, calls, plan)[1] for plan in plans]
    return (ways.index(min(ways)), min(ways))


def _check_one_more(tree, crew, places):
    """Raise InvalidPlaces unless all places but one have one helper each."""
    if not are_places(tree, places) or len(places) != len(crew) + 1:
        raise InvalidPlaces("not a list of one more different points than there are helpers")
    if not all([helper in places for helper in crew]) or len(set(crew)) != len(crew):
        raise InvalidPlaces("the helpers do not stand at different ones of the places")


def _calls_at_free_places(tree, rule, crew, places, many):
    """The calls, each at the only place that is no last place, and the distances from last places."""
    led_crew = crew
    last_places = list(crew)
    calls = []
    lasts = []
    for _ in range(many):
        call = [place for place in places if place not in last_places][0]
        led_crew = lead(tree, rule, led_crew, call)[0]
        came = who_came(led_crew, call)
        lasts.append(tree.distance(last_places[came], call))
        last_places[came] = call
        calls.append(call)
    return (calls, lasts)


def _rival(crew, calls, first):
    """The plan that sends this helper to the first call."""
    standing = list(crew)
    plan = []
    number = first
    for call in calls:
        # Where nobody stands, the one at the place of the call before goes: the same number again.
        if call in standing:
            number = standing.index(call)
        standing[number] = call
        plan.append(number)
    return plan
