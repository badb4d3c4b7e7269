"""Papers, which bound the way of the rule Both by the way of a plan, call by call."""

from bothcome.crews import apart, send, spread
from bothcome.kinds import is_int
from bothcome.plans import check_plan
from bothcome.rules import Both, lead


def potential(tree, crew, other):
    """As many times the apart of two crews as there are helpers, plus the first one's spread."""
    return len(crew) * apart(tree, crew, other) + spread(tree, crew)


def paper(tree, crew, other, calls, plan):
    """List what the plan and the rule go to each call, each with the potential behind it."""
    check_plan(other, calls, plan)
    rows = []
    rule_crew = crew
    plan_crew = other
    for call, number in zip(calls, plan):
        plan_crew, plan_way = send(tree, plan_crew, number, call)
        between = potential(tree, rule_crew, plan_crew)
        rule_crew, rule_way = lead(tree, Both(), rule_crew, call)
        rows.append((plan_way, between, rule_way, potential(tree, rule_crew, plan_crew)))
    return rows


def is_paper(tree, crew, other, calls, plan, items):
    """Tell whether a list of tuples of four integers is the paper."""
    rows = paper(tree, crew, other, calls, plan)
    # True and False equal integers, but are none.
    return items == rows and all([is_int(number) for item in items for number in item])
