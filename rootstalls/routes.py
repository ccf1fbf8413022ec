"""Routes: what is put into one stall comes out and is put into the next one.

The rule of a route is the pair (rate, slow): of p that is put in first, rate times p comes out
last, divided by the sum of 1 and slow times p.
"""

from rootstalls.deals import check_some, out_of
from rootstalls.errors import BadRoute
from rootstalls.nothing import end_of, is_walk
from rootstalls.reckoning import (
    ONE, ZERO, added, divided, lessened, lies_below, multiplied,
)
from rootstalls.webs import across, check_two, hold_of

# Of nothing done at all just as much comes out as is put in.
NO_STEPS = ((1, 1), (0, 1))


def check_route(web, thing):
    """Asks for a route."""
    if not is_walk(web, thing):
        raise BadRoute()


def rule_behind(rule, stall, ware):
    """The rule of a route that goes on from a ware along a stall more."""
    rate, slow = rule
    kept = hold_of(stall, ware)
    beyond = hold_of(stall, across(stall, ware))
    return (divided(multiplied(rate, beyond), kept), added(slow, divided(rate, kept)))


def out_by(rule, amount):
    """What comes out by a rule when some amount is put in."""
    rate, slow = rule
    return divided(multiplied(rate, amount), added(ONE, multiplied(slow, amount)))


def route_rule(web, route):
    """The pair (rate, slow) by which what comes out last follows from what is put in first."""
    check_route(web, route)
    rule = NO_STEPS
    for index, ware in route:
        rule = rule_behind(rule, web.stalls[index], ware)
    return rule


def route_out(web, route, amount):
    """What comes out last when some amount is put in first."""
    rule = route_rule(web, route)
    check_some(amount)
    return out_by(rule, amount)


def route_deal(web, route, amount):
    """The moves of a route when some amount is put in first."""
    check_route(web, route)
    check_some(amount)
    moves = []
    for index, ware in route:
        move = (index, ware, amount)
        moves.append(move)
        # No stall is used twice, so each is met as it is in the web.
        amount = out_of(web, move)
    return moves


def ends_of(web, route):
    """The ware that a route begins at and the one that it ends at."""
    return (route[0][1], end_of(web, route[-1]))


def meeting_of(one, other):
    """The some amount for which two rules bring the same, None if there is none, or for like rules."""
    ahead = lessened(other[0], one[0])
    behind = lessened(multiplied(one[0], other[1]), multiplied(other[0], one[1]))
    if behind == ZERO:
        return None
    amount = divided(ahead, behind)
    if amount[0] <= 0:
        return None
    return amount


def meeting(web, one, other):
    """The some amount for which two routes between the same wares bring the same, None if there is none."""
    rule = route_rule(web, one)
    other_rule = route_rule(web, other)
    if ends_of(web, one) != ends_of(web, other):
        raise BadRoute()
    return meeting_of(rule, other_rule)


def routes_on(web, ware, goal, begun, rule):
    """The ascending list of the routes to a goal that go on from a ware, each with its rule.

    All of them begin with the steps that have been made, by this rule.
    """
    used = [index for index, _ in begun]
    found = []
    for index, stall in enumerate(web.stalls):
        if ware in stall[:2] and index not in used:
            route = begun + ((index, ware),)
            behind = rule_behind(rule, stall, ware)
            beyond = across(stall, ware)
            if beyond == goal:
                found.append((route, behind))
            found.extend(routes_on(web, beyond, goal, route, behind))
    return found


def best_route(web, one, other, amount):
    """The most that a route brings for some amount, and the least route that does; None without a route."""
    check_two(web, one, other)
    check_some(amount)
    best = None
    for route, rule in routes_on(web, one, other, (), NO_STEPS):
        out = out_by(rule, amount)
        if best is None or lies_below(best[0], out):
            best = (out, route)
    return best


def is_better_first(one, other):
    """Whether one rule brings more than the other one for amounts that are little enough."""
    if one[0] == other[0]:
        return lies_below(one[1], other[1])
    return lies_below(other[0], one[0])


def first_of(rules):
    """The rule that is best for amounts that are little enough."""
    best = rules[0]
    for rule in rules:
        if is_better_first(rule, best):
            best = rule
    return best


def next_of(rules, rule):
    """The amount from which another rule is best, and that rule, when one is best up to there; or None."""
    found = None
    for other in rules:
        # Two rules meet at most once, and behind that the one with the lesser rate is better.
        if lies_below(other[0], rule[0]):
            amount = meeting_of(rule, other)
            if amount is not None and (found is None or is_sooner(amount, other, found)):
                found = (amount, other)
    return found


def is_sooner(amount, rule, found):
    """Whether a rule is best from an amount on, rather than what has been found."""
    if amount == found[0]:
        return lies_below(rule[0], found[1][0])
    return lies_below(amount, found[0])


def best_spans(web, one, other):
    """From which amount to which a route is best, by rising amounts from 0 on; None for the last end."""
    check_two(web, one, other)
    least = {}
    for route, rule in routes_on(web, one, other, (), NO_STEPS):
        least.setdefault(rule, route)
    if not least:
        return []
    rules = list(least)
    rule = first_of(rules)
    start = ZERO
    spans = []
    after = next_of(rules, rule)
    while after is not None:
        spans.append((start, after[0], least[rule]))
        start, rule = after
        after = next_of(rules, rule)
    spans.append((start, None, least[rule]))
    return spans
