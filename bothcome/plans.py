"""Plans, which know all calls and send one helper to each."""

from bothcome.crews import send
from bothcome.errors import InvalidPlan
from bothcome.kinds import is_int


def check_plan(crew, calls, plan):
    """Raise InvalidPlan unless a value is a list of one helper's number for each call."""
    if not isinstance(plan, list) or len(plan) != len(calls):
        raise InvalidPlan("not a list with one number for each call")
    for number in plan:
        if not is_int(number) or number < 0 or number >= len(crew):
            raise InvalidPlan("not every value is the number of a helper")


def planned(tree, crew, calls, plan):
    """The crew behind all calls, and the way of the plan."""
    check_plan(crew, calls, plan)
    last_crew = list(crew)
    way = 0
    for call, number in zip(calls, plan):
        last_crew, gone = send(tree, last_crew, number, call)
        way = way + gone
    return (last_crew, way)
